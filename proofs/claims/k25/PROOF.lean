import PyProof.Rows.All
import Wide.All
import OpenK.AllK
import Wide.FinOn
import HandS.ForMost
import HandS.Evl
import HandS.TupAny
import HandS.Conv
import HandS.Zip
import HandS.IsInst
import HandS.More
import HandS.Style
import HandS.SortInts
import HandS.Wide
import KE.KDictKeyed
import HandS.SetFor
import HandS.Strs
import KE.DataMinMax
import KE.DataCmp
import HandS.Defaults
import HandS.MakeKw
import HandS.MakeKwOnly
import HandS.TryOnly
import HandS.RevRange
import KE.KDictZip
import HandS.Zip0
import KE.DatumOrd
import HandS.SortKw
import HandS.Ends
import PyProof.ReprRoads
import PyProof.FitsInt
import KE.GoesNew
import KE.GoesMore
import HandS.TupMul
import HandS.WordsDict
import HandS.SortRule
import KE.KIndexOf
import PyProof.SetRoads
import HandS.Deep
import KE.SortData
import HandS.DictComp
import PySem.Challenge.RW_looktrails_k25_trails_that_show_what_mat
set_option Elab.async false
set_option linter.all false
set_option autoImplicit false
set_option maxRecDepth 100000
/-! A layer of plain data over the hand layer: what a def does, told of data alone; the heap stays behind it. -/
namespace DL
open PySem PySem.Spec PyProof.Rows L2

/-! ### data in a heap: lists that may be written, tuples -/
mutual
inductive Dp (K : PySem.W.Frag) (H : Hp) : V → PyData → Prop
  | non : Dp K H .non .none
  | bl (b : Bool) : Dp K H (.bl b) (.bool b)
  | int (i : Int) : Dp K H (.int i) (.int i)
  | str (x : Str) : Dp K H (.str x) (.str x)
  | lst {a : Addr} {xs : List V} {ds : List PyData} : H a = some (.lst xs) → DpAll K H xs ds → Dp K H (.ref a) (.list ds)
  | tup {a : Addr} {xs : List V} {ds : List PyData} : SqT K H a xs → DpAll K H xs ds → Dp K H (.ref a) (.tuple ds)
inductive DpAll (K : PySem.W.Frag) (H : Hp) : List V → List PyData → Prop
  | nil : DpAll K H [] []
  | cons {v : V} {vs : List V} {d : PyData} {ds : List PyData} : Dp K H v d → DpAll K H vs ds → DpAll K H (v :: vs) (d :: ds)
end
mutual
theorem Dp.l2 {K : PySem.W.Frag} {H : Hp} : ∀ {v : V} {d : PyData}, Dp K H v d → L2.Dp K H v d
  | _, _, .non => .non
  | _, _, .bl b => .bl b
  | _, _, .int i => .int i
  | _, _, .str x => .str x
  | _, _, .lst s h => .lst (.inl (.inl s)) (DpAll.l2 h)
  | _, _, .tup s h => .tup s (DpAll.l2 h)
theorem DpAll.l2 {K : PySem.W.Frag} {H : Hp} : ∀ {v : List V} {d : List PyData}, DpAll K H v d → L2.DpAll K H v d
  | _, _, .nil => .nil
  | _, _, .cons h t => .cons (Dp.l2 h) (DpAll.l2 t)
end
/-! ### heaps -/
mutual
theorem dp_mono {K : PySem.W.Frag} {H H' : Hp} (e : Same H H') : ∀ {v : V} {d : PyData}, Dp K H v d → Dp K H' v d
  | _, _, .non => .non
  | _, _, .bl b => .bl b
  | _, _, .int i => .int i
  | _, _, .str x => .str x
  | _, _, .lst s h => .lst (e _ _ s) (dpa_mono e h)
  | _, _, .tup s h => .tup (by
      rcases s with (s | ⟨o, s⟩) | s
      · exact .inl (.inl (e _ _ s))
      · exact .inl (.inr ⟨o, e _ _ s⟩)
      · exact .inr s) (dpa_mono e h)
theorem dpa_mono {K : PySem.W.Frag} {H H' : Hp} (e : Same H H') : ∀ {v : List V} {d : List PyData}, DpAll K H v d → DpAll K H' v d
  | _, _, .nil => .nil
  | _, _, .cons h t => .cons (dp_mono e h) (dpa_mono e t)
end
theorem sqt_mono {K : PySem.W.Frag} {H H' : Hp} (e : Same H H') {a : Addr} {xs : List V} (s : SqT K H a xs) : SqT K H' a xs := by
  rcases s with (s | ⟨o, s⟩) | s
  · exact .inl (.inl (e _ _ s))
  · exact .inl (.inr ⟨o, e _ _ s⟩)
  · exact .inr s
theorem same_new {H : Hp} {p : Addr} {o : HO} (h : H p = none) : Same H (upd H p o) := fun b x e => by
  rw [upd_ne (ne_of_none e h)]
  exact e

/-! ### things of one's own: trees of lists, tuples, dicts, objects, with data at their ends -/
inductive Own where
  | dat (d : PyData) | lst (os : List Own) | tup (os : List Own) | dct (ks : List PyData) (os : List Own) | ins (C : Addr) (fs : List Str) (os : List Own) | dki (ks : List Int) (os : List Own) | dkt (ks : List (List Int)) (os : List Own) | dkl (ks : List Int) (os : List Own) | dtl (ks : List (List Int)) (os : List Own)
mutual
/-- data as a key of a dict -/
def nkT : PyData → NestedKey
  | .int i => .num i
  | .tuple ds => .tup (nkTs ds)
  | _ => .none
def nkTs : List PyData → List NestedKey
  | [] => []
  | d :: r => nkT d :: nkTs r
end
mutual
/-- ints, None, and tuples of these -/
def keyD : PyData → Bool
  | .int _ => true
  | .none => true
  | .tuple ds => keyDs ds
  | _ => false
def keyDs : List PyData → Bool
  | [] => true
  | d :: r => keyD d && keyDs r
end
mutual
theorem nkT_inj : ∀ {x y : PyData}, keyD x = true → keyD y = true → nkT x = nkT y → x = y
  | .int i, .int j, _, _, e => by
    cases e
    rfl
  | .tuple xs, .tuple ys, hx, hy, e => by
    simp only [nkT, NestedKey.tup.injEq] at e
    rw [nkTs_inj (xs := xs) (ys := ys) hx hy e]
  | .none, .none, _, _, _ => rfl
  | .int _, .tuple _, _, _, e => by cases e
  | .tuple _, .int _, _, _, e => by cases e
  | .none, .int _, _, _, e => by cases e
  | .none, .tuple _, _, _, e => by cases e
  | .int _, .none, _, _, e => by cases e
  | .tuple _, .none, _, _, e => by cases e
  | .bool _, _, h, _, _ => by cases h
  | .str _, _, h, _, _ => by cases h
  | .list _, _, h, _, _ => by cases h
  | .dict _, _, h, _, _ => by cases h
  | _, .bool _, _, h, _ => by cases h
  | _, .str _, _, h, _ => by cases h
  | _, .list _, _, h, _ => by cases h
  | _, .dict _, _, h, _ => by cases h
theorem nkTs_inj : ∀ {xs ys : List PyData}, keyDs xs = true → keyDs ys = true → nkTs xs = nkTs ys → xs = ys
  | [], [], _, _, _ => rfl
  | x :: xs, y :: ys, hx, hy, e => by
    rw [keyDs, Bool.and_eq_true] at hx hy
    simp only [nkTs, List.cons.injEq] at e
    rw [nkT_inj hx.1 hy.1 e.1, nkTs_inj hx.2 hy.2 e.2]
  | [], _ :: _, _, _, e => by cases e
  | _ :: _, [], _, _, e => by cases e
end
mutual
theorem hash_any (w w' : World) : ∀ {x : PyData}, keyD x = true → (nkT x).hash w = (nkT x).hash w'
  | .int i, _ => rfl
  | .tuple xs, h => by
    simp only [nkT, NestedKey.hash]
    rw [hashes_any w w' (xs := xs) h]
  | .none, _ => rfl
  | .bool _, h => by cases h
  | .str _, h => by cases h
  | .list _, h => by cases h
  | .dict _, h => by cases h
theorem hashes_any (w w' : World) : ∀ {xs : List PyData}, keyDs xs = true → NestedKey.hashes w (nkTs xs) = NestedKey.hashes w' (nkTs xs)
  | [], _ => rfl
  | x :: xs, h => by
    rw [keyDs, Bool.and_eq_true] at h
    simp only [nkTs, NestedKey.hashes]
    rw [hash_any w w' h.1, hashes_any w w' h.2]
end
/-- may be a key: a tuple of ints and such tuples, at most eight deep -/
def keyOk (d : PyData) : Prop := keyD d = true ∧ (nkT d).depth ≤ 8 ∧ ∃ ds, d = .tuple ds
/-- a dict whose keys are tuples of ints and such tuples, by its own object alone: of each entry the key, where it stands, the value -/
def dN (a : Addr) (xs : List (PyData × Addr × V)) : HO := HO.ext fun h => (a == sysModules) = false ∧ xs.length ≤ sizeLine ∧ (xs.map (·.1)).Nodup ∧ (∀ x ∈ xs, keyOk x.1) ∧ ∃ o es ep us, h.get? a = some o ∧ o.ExactDict ∧ o.data = .dict es ep ∧ Vals (xs.map fun x => x.2.2) us ∧
  ∀ w : World, es.toList = (xs.zip us).map fun x => (⟨(nkT x.1.1).hash w, .ref x.1.2.1, x.2⟩ : DictEntry)
/-- a dict in a heap: keys, values, the keys as data -/
def DkAt (H : Hp) (a : Addr) (ks vs : List V) (ds : List PyData) : Prop := ∃ xs : List (PyData × Addr × V), H a = some (dN a xs) ∧ ks = xs.map (fun x => .ref x.2.1) ∧ vs = xs.map (fun x => x.2.2) ∧ ds = xs.map (·.1) ∧ ds.Nodup ∧ ∀ d ∈ ds, keyOk d
theorem DkAt.ne {H : Hp} {a : Addr} {ks vs : List V} {ds : List PyData} (h : DkAt H a ks vs ds) : H a ≠ none := by
  obtain ⟨_, e, _⟩ := h
  rw [e]
  exact fun q => nomatch q
theorem DkAt.keep {H H' : Hp} {a : Addr} {ks vs : List V} {ds : List PyData} (h : DkAt H a ks vs ds) (e : ∀ o, H a = some o → H' a = some o) : DkAt H' a ks vs ds := by
  obtain ⟨k, q, r⟩ := h
  exact ⟨k, e _ q, r⟩
mutual
inductive OwR (K : PySem.W.Frag) (G H : Hp) : V → Own → List Addr → Prop
  | dat {v : V} {d : PyData} : Dp K G v d → OwR K G H v (.dat d) []
  | lst {a : Addr} {vs : List V} {os : List Own} {fp : List Addr} : H a = some (.lst vs) → OwsR K G H vs os fp → a ∉ fp → OwR K G H (.ref a) (.lst os) (a :: fp)
  | tup {a : Addr} {vs : List V} {os : List Own} {fp : List Addr} : H a = some (.tup vs) → OwsR K G H vs os fp → a ∉ fp → OwR K G H (.ref a) (.tup os) (a :: fp)
  | dct {a : Addr} {ks vs : List V} {ds : List PyData} {os : List Own} {fp : List Addr} : DkAt H a ks vs ds → DpAll K G ks ds → OwsR K G H vs os fp → a ∉ fp → OwR K G H (.ref a) (.dct ds os) (a :: fp)
  | ins {a C dx : Addr} {fs : List Str} {vs : List V} {os : List Own} {fp : List Addr} : H a = some (.ins C dx (fs.zip vs)) → H dx = some (.own a) → dx ≠ a → fs.length = vs.length → OwsR K G H vs os fp → a ∉ fp → dx ∉ fp → OwR K G H (.ref a) (.ins C fs os) (a :: dx :: fp)
  | dki {a : Addr} {ks : List Int} {vs : List V} {os : List Own} {fp : List Addr} : H a = some (.dK ((ks.map Sum.inl).zip vs)) → ks.length = vs.length → ks.Nodup → OwsR K G H vs os fp → a ∉ fp → OwR K G H (.ref a) (.dki ks os) (a :: fp)
  | dkt {a : Addr} {ks : List (List Int)} {vs : List V} {os : List Own} {fp : List Addr} : H a = some (.dT ((ks.map (List.map Sum.inl)).zip vs)) → ks.length = vs.length → ks.Nodup → OwsR K G H vs os fp → a ∉ fp → OwR K G H (.ref a) (.dkt ks os) (a :: fp)
  | dkl {a : Addr} {od : Obj} {ks : List Int} {vs : List V} {os : List Own} {fp : List Addr} : H a = some (.frz od (.dK ((ks.map Sum.inl).zip vs))) → ks.length = vs.length → ks.Nodup → OwsR K G H vs os fp → a ∉ fp → OwR K G H (.ref a) (.dkl ks os) (a :: fp)
  | dtl {a : Addr} {od : Obj} {ks : List (List Int)} {vs : List V} {os : List Own} {fp : List Addr} : H a = some (.frz od (.dT ((ks.map (List.map Sum.inl)).zip vs))) → ks.length = vs.length → ks.Nodup → OwsR K G H vs os fp → a ∉ fp → OwR K G H (.ref a) (.dtl ks os) (a :: fp)
inductive OwsR (K : PySem.W.Frag) (G H : Hp) : List V → List Own → List Addr → Prop
  | nil : OwsR K G H [] [] []
  | cons {v : V} {vs : List V} {o : Own} {os : List Own} {f fs : List Addr} : OwR K G H v o f → OwsR K G H vs os fs → (∀ a ∈ f, a ∉ fs) → OwsR K G H (v :: vs) (o :: os) (f ++ fs)
end
mutual
theorem OwR.ne {K : PySem.W.Frag} {G H : Hp} : ∀ {v : V} {o : Own} {fp : List Addr}, OwR K G H v o fp → ∀ a ∈ fp, H a ≠ none
  | _, _, _, .dat _, a, h => by cases h
  | _, _, _, .lst e t _, a, h => by
    rcases List.mem_cons.mp h with rfl | h
    · rw [e]; exact fun q => nomatch q
    · exact OwsR.ne t a h
  | _, _, _, .tup e t _, a, h => by
    rcases List.mem_cons.mp h with rfl | h
    · rw [e]; exact fun q => nomatch q
    · exact OwsR.ne t a h
  | _, _, _, .dct e _ t _, a, h => by
    rcases List.mem_cons.mp h with rfl | h
    · exact e.ne
    · exact OwsR.ne t a h
  | _, _, _, .ins e e2 _ _ t _ _, a, h => by
    rcases List.mem_cons.mp h with rfl | h
    · rw [e]; exact fun q => nomatch q
    · rcases List.mem_cons.mp h with rfl | h
      · rw [e2]; exact fun q => nomatch q
      · exact OwsR.ne t a h
  | _, _, _, .dki e _ _ t _, a, h => by
    rcases List.mem_cons.mp h with rfl | h
    · rw [e]; exact fun q => nomatch q
    · exact OwsR.ne t a h
  | _, _, _, .dkt e _ _ t _, a, h => by
    rcases List.mem_cons.mp h with rfl | h
    · rw [e]; exact fun q => nomatch q
    · exact OwsR.ne t a h
  | _, _, _, .dkl e _ _ t _, a, h => by
    rcases List.mem_cons.mp h with rfl | h
    · rw [e]; exact fun q => nomatch q
    · exact OwsR.ne t a h
  | _, _, _, .dtl e _ _ t _, a, h => by
    rcases List.mem_cons.mp h with rfl | h
    · rw [e]; exact fun q => nomatch q
    · exact OwsR.ne t a h
theorem OwsR.ne {K : PySem.W.Frag} {G H : Hp} : ∀ {v : List V} {o : List Own} {fp : List Addr}, OwsR K G H v o fp → ∀ a ∈ fp, H a ≠ none
  | _, _, _, .nil, a, h => by cases h
  | _, _, _, .cons r t _, a, h => by
    rcases List.mem_append.mp h with h | h
    · exact OwR.ne r a h
    · exact OwsR.ne t a h
end
mutual
theorem OwR.keep {K : PySem.W.Frag} {G H G' H' : Hp} (s : Same G G') : ∀ {v : V} {o : Own} {fp : List Addr}, OwR K G H v o fp → (∀ a ∈ fp, ∀ u, H a = some u → H' a = some u) → OwR K G' H' v o fp
  | _, _, _, .dat d, e => .dat (dp_mono s d)
  | _, _, _, .lst q t n, e => .lst (e _ List.mem_cons_self _ q) (OwsR.keep s t fun a h => e a (List.mem_cons_of_mem _ h)) n
  | _, _, _, .tup q t n, e => .tup (e _ List.mem_cons_self _ q) (OwsR.keep s t fun a h => e a (List.mem_cons_of_mem _ h)) n
  | _, _, _, .dct q k t n, e => .dct (q.keep (e _ List.mem_cons_self)) (dpa_mono s k) (OwsR.keep s t fun a h => e a (List.mem_cons_of_mem _ h)) n
  | _, _, _, .ins q q2 l1 l2 t n n2, e => .ins (e _ List.mem_cons_self _ q) (e _ (List.mem_cons_of_mem _ List.mem_cons_self) _ q2) l1 l2 (OwsR.keep s t fun a h => e a (List.mem_cons_of_mem _ (List.mem_cons_of_mem _ h))) n n2
  | _, _, _, .dki q l1 l2 t n, e => .dki (e _ List.mem_cons_self _ q) l1 l2 (OwsR.keep s t fun a h => e a (List.mem_cons_of_mem _ h)) n
  | _, _, _, .dkt q l1 l2 t n, e => .dkt (e _ List.mem_cons_self _ q) l1 l2 (OwsR.keep s t fun a h => e a (List.mem_cons_of_mem _ h)) n
  | _, _, _, .dkl q l1 l2 t n, e => .dkl (e _ List.mem_cons_self _ q) l1 l2 (OwsR.keep s t fun a h => e a (List.mem_cons_of_mem _ h)) n
  | _, _, _, .dtl q l1 l2 t n, e => .dtl (e _ List.mem_cons_self _ q) l1 l2 (OwsR.keep s t fun a h => e a (List.mem_cons_of_mem _ h)) n
theorem OwsR.keep {K : PySem.W.Frag} {G H G' H' : Hp} (s : Same G G') : ∀ {v : List V} {o : List Own} {fp : List Addr}, OwsR K G H v o fp → (∀ a ∈ fp, ∀ u, H a = some u → H' a = some u) → OwsR K G' H' v o fp
  | _, _, _, .nil, _ => .nil
  | _, _, _, .cons r t n, e => .cons (OwR.keep s r fun a h => e a (List.mem_append_left _ h)) (OwsR.keep s t fun a h => e a (List.mem_append_right _ h)) n
end
theorem OwsR.dat {K : PySem.W.Frag} {G H : Hp} : ∀ {vs : List V} {ds : List PyData}, DpAll K G vs ds → OwsR K G H vs (ds.map .dat) []
  | _, _, .nil => .nil
  | _, _, .cons h t => .cons (f := []) (fs := []) (.dat h) (OwsR.dat t) (fun _ h => nomatch h)
theorem OwsR.undat {K : PySem.W.Frag} {G H : Hp} : ∀ {ds : List PyData} {vs : List V} {fp : List Addr}, OwsR K G H vs (ds.map .dat) fp → DpAll K G vs ds ∧ fp = []
  | [], _, _, .nil => ⟨.nil, rfl⟩
  | d :: ds, _, _, .cons (.dat h) t _ => by
    obtain ⟨h1, rfl⟩ := OwsR.undat t
    exact ⟨.cons h h1, rfl⟩

/-! ### the one thing that a def may change: its address, what it is made of; its state -/
structure Bo where
  ad : Addr
  fp : List Addr
def Has : Option Bo → Addr → Prop
  | none, _ => False
  | some b, a => a ∈ b.fp
class MSt (S : Type) where
  At : PySem.W.Frag → Hp → Hp → Bo → S → Prop
  ne : ∀ {K : PySem.W.Frag} {G H : Hp} {b : Bo} {s : S}, At K G H b s → ∀ a ∈ b.fp, H a ≠ none
  keep : ∀ {K : PySem.W.Frag} {G H G' H' : Hp} {b : Bo} {s : S}, Same G G' → At K G H b s → (∀ a ∈ b.fp, ∀ u, H a = some u → H' a = some u) → At K G' H' b s
/-- the box that draws are taken from -/
def BoxAt (H : Hp) (b : Addr) (n : Nat) : Prop := ∃ x y z : Int, H b = some (.lst [.int x, .int y, .int z]) ∧ 0 ≤ x ∧ 0 ≤ y ∧ y < 4611686018427387904 ∧ 0 ≤ z ∧ z ≤ (n : Int)
instance : MSt Nat where
  At := fun _ _ H b n => b.fp = [b.ad] ∧ BoxAt H b.ad n
  ne := fun h a ha => by
    obtain ⟨e, x, y, z, q, _⟩ := h
    rw [e, List.mem_singleton] at ha
    subst ha
    rw [q]
    exact fun z => nomatch z
  keep := fun s h e => by
    obtain ⟨e1, x, y, z, q, r⟩ := h
    exact ⟨e1, x, y, z, e _ (by rw [e1]; exact List.mem_singleton.mpr rfl) _ q, r⟩
theorem st_ne {H H' : Hp} {a : Addr} (h : H a ≠ none) (e : ∀ u, H a = some u → H' a = some u) : H' a ≠ none := by
  cases q : H a with
  | none => exact absurd q h
  | some u =>
    rw [e u q]
    exact fun z => nomatch z
instance : MSt Own where
  At := fun K G H b o => ∃ f, OwR K G H (.ref b.ad) o f ∧ (∀ a ∈ f, a ∈ b.fp) ∧ ∀ a ∈ b.fp, H a ≠ none
  ne := fun h => let ⟨_, _, _, q⟩ := h; q
  keep := fun s h e => by
    obtain ⟨f, r, q1, q2⟩ := h
    exact ⟨f, r.keep s fun a ha => e a (q1 a ha), q1, fun a ha => st_ne (q2 a ha) (e a ha)⟩
def BoxO {S : Type} [MSt S] (K : PySem.W.Frag) (G H : Hp) : Option Bo → S → Prop
  | none, _ => True
  | some b, n => MSt.At K G H b n

/-- from G (what stands still) and H (all) on: G grows by new things alone, nothing of H changes but the one thing -/
structure Grow (bo : Option Bo) (G H G' H' : Hp) : Prop where
  gg : Same G G'
  gh : Same G' H'
  fr : ∀ a, H a ≠ none → G a = none → G' a = none
  kp : ∀ a o, ¬ Has bo a → H a = some o → H' a = some o
theorem Grow.refl {bo : Option Bo} {G H : Hp} (e : Same G H) : Grow bo G H G H := ⟨Same.refl G, e, fun _ _ h => h, fun _ _ _ h => h⟩
section
variable {S : Type} [MSt S]
theorem BoxO.some_ne {K : PySem.W.Frag} {G H : Hp} {bo : Option Bo} {n : S} (h : BoxO K G H bo n) {a : Addr} (e : Has bo a) : H a ≠ none := by
  cases bo with
  | none => exact e.elim
  | some b => exact MSt.ne h a e
theorem BoxO.keep {K : PySem.W.Frag} {G H G' H' : Hp} {bo : Option Bo} {n : S} (h : BoxO K G H bo n) (s : Same G G') (e : ∀ a, Has bo a → ∀ u, H a = some u → H' a = some u) : BoxO K G' H' bo n := by
  cases bo with
  | none => trivial
  | some b => exact MSt.keep s h e
theorem Grow.trans {K : PySem.W.Frag} {bo : Option Bo} {G H G1 H1 G2 H2 : Hp} {n : S} (a : Grow bo G H G1 H1) (hb : BoxO K G1 H1 bo n) (b : Grow bo G1 H1 G2 H2) : Grow bo G H G2 H2 := by
  refine ⟨a.gg.trans b.gg, b.gh, fun c h0 h1 => b.fr c ?_ (a.fr c h0 h1), fun c o hc h => b.kp c o hc (a.kp c o hc h)⟩
  by_cases e : Has bo c
  · exact hb.some_ne e
  · cases q : H c with
    | none => exact absurd q h0
    | some o =>
      rw [a.kp c o e q]
      exact fun z => nomatch z
end
/-- a new object that is kept out of G -/
theorem Grow.out {bo : Option Bo} {G H : Hp} {p : Addr} {o : HO} (e : Same G H) (h : H p = none) : Grow bo G H G (upd H p o) :=
  ⟨Same.refl G, e.trans (same_new h), fun _ _ q => q, fun a u _ q => same_new h a u q⟩
/-- a new object that goes into G -/
theorem Grow.into {bo : Option Bo} {G H : Hp} {p : Addr} {o : HO} (e : Same G H) (h : H p = none) : Grow bo G H (upd G p o) (upd H p o) := by
  have hg : G p = none := e.free h
  refine ⟨same_new hg, fun a u q => ?_, fun a h0 h1 => ?_, fun a u _ q => same_new h a u q⟩
  · by_cases z : a = p
    · subst z
      rw [upd_same] at q ⊢
      exact q
    · rw [upd_ne z] at q ⊢
      exact e a u q
  · have z : a ≠ p := fun z => by
      subst z
      exact h0 h
    rw [upd_ne z]
    exact h1
/-- what came out fresh goes into G -/
theorem Grow.keep {bo : Option Bo} {G H G' H' : Hp} {p : Addr} {o : HO} (g : Grow bo G H G' H') (h : H p = none) (hg : G' p = none) (hp : H' p = some o) : Grow bo G H (upd G' p o) H' := by
  refine ⟨g.gg.trans (same_new hg), fun a u q => ?_, fun a h0 h1 => ?_, g.kp⟩
  · by_cases z : a = p
    · subst z
      rw [upd_same] at q
      rw [hp]
      exact q
    · rw [upd_ne z] at q
      exact g.gh a u q
  · have z : a ≠ p := fun z => by
      subst z
      exact h0 h
    rw [upd_ne z]
    exact g.fr a h0 h1

/-! ### slots -/
inductive Sl where
  | no | im (d : PyData) | ow (ds : List PyData) | bx | ob (o : Own) | rd (o : Own)
abbrev En := List Sl
/-- what is one's own in a slot -/
def Sl.own : Sl → Option Own
  | .ow ds => some (.lst (ds.map .dat))
  | .ob o => some o
  | _ => none
structure Rl {S : Type} [MSt S] (K : PySem.W.Frag) (bo : Option Bo) (G0 H0 : Hp) (σ : L2.St) (H G : Hp) (ε : En) (n : S) : Prop where
  gr : Grow bo G0 H0 G H
  bx : BoxO K G H bo n
  gb : ∀ a, Has bo a → G a = none
  ln : σ.length = ε.length
  im : ∀ (i : Nat) (d : PyData), ε[i]? = some (.im d) → ∃ v, σ[i]? = some (some v) ∧ Dp K G v d
  bs : ∀ (i : Nat), ε[i]? = some .bx → ∃ b, bo = some b ∧ σ[i]? = some (some (.ref b.ad))
  rd : ∀ (i : Nat) (o : Own), ε[i]? = some (.rd o) → ∃ v f, σ[i]? = some (some v) ∧ OwR K G G v o f
  own : ∃ fp : Nat → List Addr, (∀ (i j : Nat) (a : Addr), i ≠ j → a ∈ fp i → a ∉ fp j) ∧ (∀ (i : Nat) (a : Addr), a ∈ fp i → G a = none ∧ ¬ Has bo a ∧ H0 a = none ∧ H a ≠ none) ∧
    ∀ (i : Nat) (s : Sl) (o : Own), ε[i]? = some s → s.own = some o → ∃ v, σ[i]? = some (some v) ∧ OwR K G H v o (fp i)
/-- what stands still stays so -/
theorem OwR.up {K : PySem.W.Frag} {G G' : Hp} {v : V} {o : Own} {f : List Addr} (s : Same G G') (h : OwR K G G v o f) : OwR K G' G' v o f := h.keep s fun a _ u q => s a u q
theorem get_set {α : Type} {l : List α} {i j : Nat} {x y : α} (h : (l.set i x)[j]? = some y) : (i = j ∧ i < l.length ∧ y = x) ∨ (i ≠ j ∧ l[j]? = some y) := by
  by_cases e : i = j
  · subst e
    by_cases hi : i < l.length
    · rw [List.getElem?_set_self hi] at h
      exact .inl ⟨rfl, hi, (Option.some.inj h).symm⟩
    · rw [List.getElem?_eq_none (by simpa using hi)] at h
      cases h
  · rw [List.getElem?_set_ne e] at h
    exact .inr ⟨e, h⟩
theorem set_at {α : Type} {l : List α} {i : Nat} {x : α} (h : i < l.length) : (l.set i x)[i]? = some x := List.getElem?_set_self h
theorem set_off {α : Type} {l : List α} {i j : Nat} {x : α} (h : i ≠ j) : (l.set i x)[j]? = l[j]? := List.getElem?_set_ne h
section
variable {S : Type} [MSt S] {K : PySem.W.Frag} {bo : Option Bo} {G0 H0 : Hp} {σ : L2.St} {H G H' G' : Hp} {ε : En} {n n' : S}
theorem Rl.gh (r : Rl K bo G0 H0 σ H G ε n) : Same G H := r.gr.gh
theorem Rl.grow (r : Rl K bo G0 H0 σ H G ε n) (g : Grow bo G H G' H') (hb : BoxO K G' H' bo n') : Rl K bo G0 H0 σ H' G' ε n' where
  gr := r.gr.trans r.bx g
  bx := hb
  gb := fun b e => g.fr b (r.bx.some_ne e) (r.gb b e)
  ln := r.ln
  im := fun i d h => let ⟨v, h1, h2⟩ := r.im i d h; ⟨v, h1, dp_mono g.gg h2⟩
  bs := r.bs
  rd := fun i o h => let ⟨v, f, h1, h2⟩ := r.rd i o h; ⟨v, f, h1, h2.up g.gg⟩
  own := by
    obtain ⟨fp, h1, h2, h3⟩ := r.own
    refine ⟨fp, h1, fun i a ha => ?_, fun i s o hi ho => ?_⟩
    · obtain ⟨q1, q2, q3, q4⟩ := h2 i a ha
      refine ⟨g.fr a q4 q1, q2, q3, ?_⟩
      cases q : H a with
      | none => exact absurd q q4
      | some u =>
        rw [g.kp a u q2 q]
        exact fun z => nomatch z
    · obtain ⟨v, hv, hr⟩ := h3 i s o hi ho
      exact ⟨v, hv, hr.keep g.gg fun a ha u hu => g.kp a u (h2 i a ha).2.1 hu⟩
/-- a slot gets data -/
theorem Rl.setIm (r : Rl K bo G0 H0 σ H G ε n) {v : V} {d : PyData} (h : Dp K G v d) (i : Nat) : Rl K bo G0 H0 (σ.set i (some v)) H G (ε.set i (.im d)) n where
  gr := r.gr
  bx := r.bx
  gb := r.gb
  ln := by rw [List.length_set, List.length_set]; exact r.ln
  im := fun j e q => by
    rcases get_set q with ⟨rfl, hi, z⟩ | ⟨hne, q⟩
    · cases z
      exact ⟨v, set_at (by rw [r.ln]; exact hi), h⟩
    · rw [set_off hne]
      exact r.im j e q
  bs := fun j q => by
    rcases get_set q with ⟨rfl, hi, z⟩ | ⟨hne, q⟩
    · cases z
    · rw [set_off hne]
      exact r.bs j q
  rd := fun j o q => by
    rcases get_set q with ⟨rfl, hi, z⟩ | ⟨hne, q⟩
    · cases z
    · rw [set_off hne]
      exact r.rd j o q
  own := by
    obtain ⟨fp, h1, h2, h3⟩ := r.own
    refine ⟨fp, h1, h2, fun j s o q ho => ?_⟩
    rcases get_set q with ⟨rfl, hi, z⟩ | ⟨hne, q⟩
    · subst z
      cases ho
    · rw [set_off hne]
      exact h3 j s o q ho
/-- a slot is forgotten -/
theorem Rl.setNo (r : Rl K bo G0 H0 σ H G ε n) (x : Option V) (i : Nat) : Rl K bo G0 H0 (σ.set i x) H G (ε.set i .no) n where
  gr := r.gr
  bx := r.bx
  gb := r.gb
  ln := by rw [List.length_set, List.length_set]; exact r.ln
  im := fun j e q => by
    rcases get_set q with ⟨rfl, hi, z⟩ | ⟨hne, q⟩
    · cases z
    · rw [set_off hne]
      exact r.im j e q
  bs := fun j q => by
    rcases get_set q with ⟨rfl, hi, z⟩ | ⟨hne, q⟩
    · cases z
    · rw [set_off hne]
      exact r.bs j q
  rd := fun j o q => by
    rcases get_set q with ⟨rfl, hi, z⟩ | ⟨hne, q⟩
    · cases z
    · rw [set_off hne]
      exact r.rd j o q
  own := by
    obtain ⟨fp, h1, h2, h3⟩ := r.own
    refine ⟨fp, h1, h2, fun j s o q ho => ?_⟩
    rcases get_set q with ⟨rfl, hi, z⟩ | ⟨hne, q⟩
    · subst z
      cases ho
    · rw [set_off hne]
      exact h3 j s o q ho
theorem Grow.back (g : Grow bo G H G' H') (b : BoxO K G' H' bo n) {p : Addr} (h : H' p = none) : H p = none := by
  cases q : H p with
  | none => rfl
  | some o =>
    by_cases e : Has bo p
    · exact absurd h (b.some_ne e)
    · rw [g.kp p o e q] at h
      cases h
/-- a slot gets a new thing of its own -/
theorem Rl.setOb (r0 : Rl K bo G0 H0 σ H G ε n) (g : Grow bo G H G' H') (hb : BoxO K G' H' bo n') {v : V} {s : Sl} {o : Own} {f : List Addr} (ho : s.own = some o) (hr : OwR K G' H' v o f) (hf : ∀ a ∈ f, H a = none ∧ G' a = none)
    (i : Nat) : Rl K bo G0 H0 (σ.set i (some v)) H' G' (ε.set i s) n' :=
  let r := r0.grow g hb
  { gr := r.gr
    bx := r.bx
    gb := r.gb
    ln := by rw [List.length_set, List.length_set]; exact r.ln
    im := fun j e q => by
      rcases get_set q with ⟨rfl, hi, z⟩ | ⟨hne, q⟩
      · subst z
        cases ho
      · rw [set_off hne]
        exact r.im j e q
    bs := fun j q => by
      rcases get_set q with ⟨rfl, hi, z⟩ | ⟨hne, q⟩
      · subst z
        cases ho
      · rw [set_off hne]
        exact r.bs j q
    rd := fun j o q => by
      rcases get_set q with ⟨rfl, hi, z⟩ | ⟨hne, q⟩
      · subst z
        cases ho
      · rw [set_off hne]
        exact r.rd j o q
    own := by
      obtain ⟨fp, h1, h2, h3⟩ := r0.own
      obtain ⟨fp', h1', h2', h3'⟩ : ∃ fp' : Nat → List Addr, (∀ (i j : Nat) (a : Addr), i ≠ j → a ∈ fp' i → a ∉ fp' j) ∧ (∀ (i : Nat) (a : Addr), a ∈ fp' i → G' a = none ∧ ¬ Has bo a ∧ H0 a = none ∧ H' a ≠ none ∧ H a ≠ none) ∧
          ∀ (i : Nat) (s : Sl) (o : Own), ε[i]? = some s → s.own = some o → ∃ v, σ[i]? = some (some v) ∧ OwR K G' H' v o (fp' i) := by
        refine ⟨fp, h1, fun i a ha => ?_, fun i s o hi ho => ?_⟩
        · obtain ⟨q1, q2, q3, q4⟩ := h2 i a ha
          refine ⟨g.fr a q4 q1, q2, q3, ?_, q4⟩
          cases q : H a with
          | none => exact absurd q q4
          | some u =>
            rw [g.kp a u q2 q]
            exact fun z => nomatch z
        · obtain ⟨v, hv, hr⟩ := h3 i s o hi ho
          exact ⟨v, hv, hr.keep g.gg fun a ha u hu => g.kp a u (h2 i a ha).2.1 hu⟩
      refine ⟨fun j => if j = i then f else fp' j, fun j k a hjk ha hb => ?_, fun j a ha => ?_, fun j t u q hu => ?_⟩
      · by_cases e1 : j = i
        · have e2 : k ≠ i := fun z => hjk (e1.trans z.symm)
          simp only [if_pos e1] at ha
          simp only [if_neg e2] at hb
          exact (h2' k a hb).2.2.2.2 (hf a ha).1
        · simp only [if_neg e1] at ha
          by_cases e2 : k = i
          · simp only [if_pos e2] at hb
            exact (h2' j a ha).2.2.2.2 (hf a hb).1
          · simp only [if_neg e2] at hb
            exact h1' j k a hjk ha hb
      · by_cases e1 : j = i
        · simp only [if_pos e1] at ha
          refine ⟨(hf a ha).2, fun z => r0.bx.some_ne z (hf a ha).1, r0.gr.back r0.bx (hf a ha).1, hr.ne a ha⟩
        · simp only [if_neg e1] at ha
          obtain ⟨q1, q2, q3, q4, _⟩ := h2' j a ha
          exact ⟨q1, q2, q3, q4⟩
      · rcases get_set q with ⟨rfl, hi, z⟩ | ⟨hne, q⟩
        · subst z
          rw [ho] at hu
          cases hu
          exact ⟨v, set_at (by rw [r.ln]; exact hi), by simp only [if_true]; exact hr⟩
        · rw [set_off hne]
          obtain ⟨w, q3, q4⟩ := h3' j t u q hu
          refine ⟨w, q3, ?_⟩
          simp only [if_neg (Ne.symm hne)]
          exact q4 }
/-- a thing of one's own is changed: within its own places, and by new ones -/
theorem Rl.putOb (r : Rl K bo G0 H0 σ H G ε n) {i : Nat} {s : Sl} {o : Own} (hi : ε[i]? = some s) (ho : s.own = some o) :
    ∃ v f, σ[i]? = some (some v) ∧ OwR K G H v o f ∧ (∀ a ∈ f, G a = none ∧ ¬ Has bo a ∧ H0 a = none) ∧ ∀ (t : Sl) (o2 : Own), t.own = some o2 → ∀ G2 H2 f2, Same G G2 → Same G2 H2 → (∀ a, H a ≠ none → G a = none → G2 a = none) → (∀ a u, a ∉ f → H a = some u → H2 a = some u) → OwR K G2 H2 v o2 f2 → (∀ a ∈ f2, a ∈ f ∨ (H a = none ∧ G2 a = none)) →
      Rl K bo G0 H0 σ H2 G2 (ε.set i t) n := by
  obtain ⟨fp, h1, h2, h3⟩ := r.own
  obtain ⟨v, hv, hr⟩ := h3 i s o hi ho
  refine ⟨v, fp i, hv, hr, fun a ha => ⟨(h2 i a ha).1, (h2 i a ha).2.1, (h2 i a ha).2.2.1⟩, fun t o2 ht G2 H2 f2 sg sh hfr hk hr2 hf2 => ?_⟩
  have hlt : i < ε.length := (List.getElem?_eq_some_iff.mp hi).1
  have hst : ∀ a, a ∉ fp i → H a ≠ none → H2 a ≠ none := fun a ha q => by
    cases e : H a with
    | none => exact absurd e q
    | some u =>
      rw [hk a u ha e]
      exact fun z => nomatch z
  refine ⟨⟨r.gr.gg.trans sg, sh, fun c q1 q2 => hfr c ?_ (r.gr.fr c q1 q2), fun c u hc q => hk c u (fun z => ?_) (r.gr.kp c u hc q)⟩, ?_, fun b e => hfr b (r.bx.some_ne e) (r.gb b e), by rw [List.length_set]; exact r.ln, fun j e q => ?_, fun j q => ?_, fun j o q => ?_, ?_⟩
  · by_cases e : Has bo c
    · exact r.bx.some_ne e
    · cases q : H0 c with
      | none => exact absurd q q1
      | some u =>
        rw [r.gr.kp c u e q]
        exact fun z => nomatch z
  · have := (h2 i c z).2.2.1
    rw [q] at this
    cases this
  · exact r.bx.keep sg fun a ha u q => hk a u (fun z => (h2 i a z).2.1 ha) q
  · rcases get_set q with ⟨rfl, _, z⟩ | ⟨hne, q⟩
    · subst z
      cases ht
    · obtain ⟨w, q1, q2⟩ := r.im j e q
      exact ⟨w, q1, dp_mono sg q2⟩
  · rcases get_set q with ⟨rfl, _, z⟩ | ⟨hne, q⟩
    · subst z
      cases ht
    · exact r.bs j q
  · rcases get_set q with ⟨rfl, _, z⟩ | ⟨hne, q⟩
    · subst z
      cases ht
    · obtain ⟨w, f, q1, q2⟩ := r.rd j o q
      exact ⟨w, f, q1, q2.up sg⟩
  · refine ⟨fun j => if j = i then f2 else fp j, fun j k a hjk ha hb => ?_, fun j a ha => ?_, fun j t' u q hu => ?_⟩
    · by_cases e1 : j = i
      · have e2 : k ≠ i := fun z => hjk (e1.trans z.symm)
        simp only [if_pos e1] at ha
        simp only [if_neg e2] at hb
        rcases hf2 a ha with q | q
        · exact h1 i k a (Ne.symm e2) q hb
        · exact (h2 k a hb).2.2.2 q.1
      · simp only [if_neg e1] at ha
        by_cases e2 : k = i
        · simp only [if_pos e2] at hb
          rcases hf2 a hb with q | q
          · exact h1 i j a (Ne.symm e1) q ha
          · exact (h2 j a ha).2.2.2 q.1
        · simp only [if_neg e2] at hb
          exact h1 j k a hjk ha hb
    · by_cases e1 : j = i
      · simp only [if_pos e1] at ha
        rcases hf2 a ha with q | q
        · obtain ⟨q1, q2, q3, q4⟩ := h2 i a q
          exact ⟨hfr a q4 q1, q2, q3, hr2.ne a ha⟩
        · exact ⟨q.2, fun z => r.bx.some_ne z q.1, r.gr.back r.bx q.1, hr2.ne a ha⟩
      · simp only [if_neg e1] at ha
        obtain ⟨q1, q2, q3, q4⟩ := h2 j a ha
        exact ⟨hfr a q4 q1, q2, q3, hst a (fun z => h1 i j a (Ne.symm e1) z ha) q4⟩
    · rcases get_set q with ⟨rfl, hi, z⟩ | ⟨hne, q⟩
      · subst z
        rw [ht] at hu
        cases hu
        exact ⟨v, hv, by simp only [if_true]; exact hr2⟩
      · obtain ⟨w, q3, q4⟩ := h3 j t' u q hu
        refine ⟨w, q3, ?_⟩
        simp only [if_neg (Ne.symm hne)]
        exact q4.keep sg fun a ha u q => hk a u (fun z => h1 i j a hne z ha) q
/-- an own list of data -/
theorem Rl.ow (r : Rl K bo G0 H0 σ H G ε n) (i : Nat) (ds : List PyData) (hi : ε[i]? = some (.ow ds)) : ∃ a vs, σ[i]? = some (some (.ref a)) ∧ H a = some (.lst vs) ∧ G a = none ∧ ¬ Has bo a ∧ H0 a = none ∧ DpAll K G vs ds := by
  obtain ⟨fp, h1, h2, h3⟩ := r.own
  obtain ⟨v, hv, hr⟩ := h3 i _ _ hi rfl
  generalize hf : fp i = f at hr
  cases hr with
  | lst q t n =>
    obtain ⟨hd, rfl⟩ := OwsR.undat t
    obtain ⟨q1, q2, q3, _⟩ := h2 i _ (by rw [hf]; exact List.mem_cons_self)
    exact ⟨_, _, hv, q, q1, q2, q3, hd⟩
/-- a list of its own is changed -/
theorem Rl.put (r : Rl K bo G0 H0 σ H G ε n) {i : Nat} {a : Addr} {ds : List PyData} (hi : ε[i]? = some (.ow ds)) (hs : σ[i]? = some (some (.ref a))) {ws : List V} {es : List PyData} (hd : DpAll K G ws es) :
    Rl K bo G0 H0 σ (upd H a (.lst ws)) G (ε.set i (.ow es)) n := by
  obtain ⟨v, f, hv, hr, hf, hk⟩ := r.putOb hi (s := .ow ds) rfl
  rw [hs] at hv
  cases hv
  cases hr with
  | lst q t nn =>
    obtain ⟨_, rfl⟩ := OwsR.undat t
    refine hk (.ow es) _ rfl G _ [a] (Same.refl G) (fun c o z => ?_) (fun _ _ z => z) (fun c u hc z => ?_) (.lst upd_same (OwsR.dat hd) (fun z => nomatch z)) fun c hc => .inl hc
    · rw [upd_ne (ne_of_none z (hf a List.mem_cons_self).1)]
      exact r.gh c o z
    · rw [upd_ne (fun e => hc (by rw [e]; exact List.mem_cons_self))]
      exact z
/-- a slot gets a new list of its own -/
theorem Rl.setOw (r : Rl K bo G0 H0 σ H G ε n) (g : Grow bo G H G' H') (hb : BoxO K G' H' bo n') {a : Addr} {vs : List V} {ds : List PyData} (hn : H a = none) (hg : G' a = none) (ha : H' a = some (.lst vs)) (hd : DpAll K G' vs ds) (i : Nat) : Rl K bo G0 H0 (σ.set i (some (.ref a))) H' G' (ε.set i (.ow ds)) n' :=
  r.setOb g hb (s := .ow ds) rfl (.lst ha (OwsR.dat hd) (fun z => nomatch z)) (fun c hc => by
    rw [List.mem_singleton.mp hc]
    exact ⟨hn, hg⟩) i
/-! ### standing still -/
mutual
def Own.toD : Own → Option PyData
  | .dat d => some d
  | .lst os => (Own.toDs os).map .list
  | .tup os => (Own.toDs os).map .tuple
  | .dct _ _ => none
  | .ins _ _ _ => none
  | .dki _ _ => none
  | .dkt _ _ => none
  | .dkl _ _ => none
  | .dtl _ _ => none
def Own.toDs : List Own → Option (List PyData)
  | [] => some []
  | o :: r => match Own.toD o, Own.toDs r with
    | some d, some ds => some (d :: ds)
    | _, _ => none
end
theorem Own.toDs_dat : ∀ ds : List PyData, Own.toDs (ds.map .dat) = some ds
  | [] => rfl
  | d :: r => by
    show (match Own.toD (.dat d), Own.toDs (r.map .dat) with | some d, some ds => some (d :: ds) | _, _ => none) = _
    rw [Own.toDs_dat r]
    rfl
/-- G and what stands at these places -/
def addG (G H : Hp) (f : List Addr) : Hp := fun a => if a ∈ f then H a else G a
theorem addG_same {f : List Addr} (h : ∀ a ∈ f, G a = none) : Same G (addG G H f) := fun a o e => by
  unfold addG
  rw [if_neg (fun z => by rw [h a z] at e; cases e)]
  exact e
theorem addG_sub {f f' : List Addr} (hs : ∀ a ∈ f, a ∈ f') (h : ∀ a ∈ f', G a = none) : Same (addG G H f) (addG G H f') := fun a o e => by
  unfold addG at e ⊢
  by_cases q : a ∈ f
  · rw [if_pos q] at e
    rw [if_pos (hs a q)]
    exact e
  · rw [if_neg q] at e
    rw [if_neg (fun z => by rw [h a z] at e; cases e)]
    exact e
theorem addG_up {f : List Addr} (e : Same G H) : Same (addG G H f) H := fun a o q => by
  unfold addG at q
  split at q
  · exact q
  · exact e a o q
mutual
theorem OwR.still : ∀ {v : V} {o : Own} {fp : List Addr} {d : PyData}, OwR K G H v o fp → o.toD = some d → (∀ a ∈ fp, G a = none) → Dp K (addG G H fp) v d
  | _, _, _, d, .dat h, e, hn => by
    cases e
    exact dp_mono (addG_same hn) h
  | _, .lst os, _, d, .lst (a := a) (fp := fp) q t _, e, hn => by
    rw [Own.toD, Option.map_eq_some_iff] at e
    obtain ⟨ds, e1, rfl⟩ := e
    refine .lst (by unfold addG; rw [if_pos List.mem_cons_self]; exact q) (dpa_mono (addG_sub (fun b hb => List.mem_cons_of_mem _ hb) hn) (OwsR.still t e1 fun b hb => hn b (List.mem_cons_of_mem _ hb)))
  | _, .tup os, _, d, .tup (a := a) (fp := fp) q t _, e, hn => by
    rw [Own.toD, Option.map_eq_some_iff] at e
    obtain ⟨ds, e1, rfl⟩ := e
    refine .tup (.inl (.inl (by unfold addG; rw [if_pos List.mem_cons_self]; exact q))) (dpa_mono (addG_sub (fun b hb => List.mem_cons_of_mem _ hb) hn) (OwsR.still t e1 fun b hb => hn b (List.mem_cons_of_mem _ hb)))
  | _, .dct _ _, _, d, _, e, hn => by cases e
  | _, .ins _ _ _, _, d, _, e, hn => by cases e
  | _, .dki _ _, _, d, _, e, hn => by cases e
  | _, .dkt _ _, _, d, _, e, hn => by cases e
  | _, .dkl _ _, _, d, _, e, hn => by cases e
  | _, .dtl _ _, _, d, _, e, hn => by cases e
theorem OwsR.still : ∀ {v : List V} {o : List Own} {fp : List Addr} {d : List PyData}, OwsR K G H v o fp → Own.toDs o = some d → (∀ a ∈ fp, G a = none) → DpAll K (addG G H fp) v d
  | _, _, _, d, .nil, e, hn => by
    cases e
    exact .nil
  | _, _, _, d, .cons (o := o) (os := os) r t _, e, hn => by
    rw [Own.toDs] at e
    cases e1 : Own.toD o with
    | none =>
      rw [e1] at e
      cases e
    | some x =>
      cases e2 : Own.toDs os with
      | none =>
        rw [e1, e2] at e
        cases e
      | some xs =>
        rw [e1, e2] at e
        cases e
        exact .cons (dp_mono (addG_sub (fun b hb => List.mem_append_left _ hb) hn) (OwR.still r e1 fun b hb => hn b (List.mem_append_left _ hb))) (dpa_mono (addG_sub (fun b hb => List.mem_append_right _ hb) hn) (OwsR.still t e2 fun b hb => hn b (List.mem_append_right _ hb)))
end
/-- a thing of one's own is told to stand still from now on -/
theorem Rl.freezeOb (r : Rl K bo G0 H0 σ H G ε n) {i : Nat} {s : Sl} {o : Own} {d : PyData} (hi : ε[i]? = some s) (ho : s.own = some o) (hd : o.toD = some d) : ∃ G', Rl K bo G0 H0 σ H G' (ε.set i (.im d)) n := by
  obtain ⟨fp, h1, h2, h3⟩ := r.own
  obtain ⟨v, hv, hr⟩ := h3 i s o hi ho
  have hn : ∀ a ∈ fp i, G a = none := fun a ha => (h2 i a ha).1
  have sg : Same G (addG G H (fp i)) := addG_same hn
  have hfr : ∀ c, G c = none → c ∉ fp i → addG G H (fp i) c = none := fun c q z => by
    unfold addG
    rw [if_neg z]
    exact q
  refine ⟨addG G H (fp i), ⟨r.gr.gg.trans sg, addG_up r.gh, fun c q1 q2 => hfr c (r.gr.fr c q1 q2) fun z => q1 (h2 i c z).2.2.1, r.gr.kp⟩, r.bx.keep sg fun a _ u q => q, fun a ha => hfr a (r.gb a ha) fun z => (h2 i a z).2.1 ha, by rw [List.length_set]; exact r.ln, fun j e q => ?_, fun j q => ?_, fun j o q => ?_, ?_⟩
  · rcases get_set q with ⟨rfl, _, z⟩ | ⟨hne, q⟩
    · cases z
      exact ⟨v, hv, hr.still hd hn⟩
    · obtain ⟨w, q1, q2⟩ := r.im j e q
      exact ⟨w, q1, dp_mono sg q2⟩
  · rcases get_set q with ⟨rfl, _, z⟩ | ⟨hne, q⟩
    · cases z
    · exact r.bs j q
  · rcases get_set q with ⟨rfl, _, z⟩ | ⟨hne, q⟩
    · cases z
    · obtain ⟨w, f, q1, q2⟩ := r.rd j o q
      exact ⟨w, f, q1, q2.up sg⟩
  · refine ⟨fun j => if j = i then [] else fp j, fun j k a hjk ha hb => ?_, fun j a ha => ?_, fun j t u q hu => ?_⟩
    · by_cases e1 : j = i
      · simp only [if_pos e1] at ha
        cases ha
      · simp only [if_neg e1] at ha
        by_cases e2 : k = i
        · simp only [if_pos e2] at hb
          cases hb
        · simp only [if_neg e2] at hb
          exact h1 j k a hjk ha hb
    · by_cases e1 : j = i
      · simp only [if_pos e1] at ha
        cases ha
      · simp only [if_neg e1] at ha
        obtain ⟨q1, q2, q3, q4⟩ := h2 j a ha
        exact ⟨hfr a q1 fun z => h1 j i a e1 ha z, q2, q3, q4⟩
    · rcases get_set q with ⟨rfl, hi, z⟩ | ⟨hne, q⟩
      · subst z
        cases hu
      · obtain ⟨w, q3, q4⟩ := h3 j t u q hu
        refine ⟨w, q3, ?_⟩
        simp only [if_neg (Ne.symm hne)]
        exact q4.keep sg fun a ha u q => q
theorem Rl.freeze (r : Rl K bo G0 H0 σ H G ε n) {i : Nat} {ds : List PyData} (hi : ε[i]? = some (.ow ds)) : ∃ G', Rl K bo G0 H0 σ H G' (ε.set i (.im (.list ds))) n :=
  r.freezeOb hi (s := .ow ds) rfl (by rw [Own.toD, Own.toDs_dat]; rfl)
mutual
theorem OwR.stand : ∀ {v : V} {o : Own} {fp : List Addr}, OwR K G H v o fp → (∀ a ∈ fp, G a = none) → OwR K (addG G H fp) (addG G H fp) v o fp
  | _, _, _, .dat h, hn => .dat (dp_mono (addG_same hn) h)
  | _, _, _, .lst q t n, hn => .lst (by unfold addG; rw [if_pos List.mem_cons_self]; exact q) ((OwsR.stand t fun a ha => hn a (List.mem_cons_of_mem _ ha)).keep (addG_sub (fun b hb => List.mem_cons_of_mem _ hb) hn) fun a _ u z => addG_sub (fun b hb => List.mem_cons_of_mem _ hb) hn a u z) n
  | _, _, _, .tup q t n, hn => .tup (by unfold addG; rw [if_pos List.mem_cons_self]; exact q) ((OwsR.stand t fun a ha => hn a (List.mem_cons_of_mem _ ha)).keep (addG_sub (fun b hb => List.mem_cons_of_mem _ hb) hn) fun a _ u z => addG_sub (fun b hb => List.mem_cons_of_mem _ hb) hn a u z) n
  | _, _, _, .dct q k t n, hn => .dct (q.keep fun o z => by unfold addG; rw [if_pos List.mem_cons_self]; exact z) (dpa_mono (addG_same hn) k) ((OwsR.stand t fun a ha => hn a (List.mem_cons_of_mem _ ha)).keep (addG_sub (fun b hb => List.mem_cons_of_mem _ hb) hn) fun a _ u z => addG_sub (fun b hb => List.mem_cons_of_mem _ hb) hn a u z) n
  | _, _, _, .ins q q2 l1 l2 t n n2, hn => .ins (by unfold addG; rw [if_pos List.mem_cons_self]; exact q) (by unfold addG; rw [if_pos (List.mem_cons_of_mem _ List.mem_cons_self)]; exact q2) l1 l2 ((OwsR.stand t fun a ha => hn a (List.mem_cons_of_mem _ (List.mem_cons_of_mem _ ha))).keep (addG_sub (fun b hb => List.mem_cons_of_mem _ (List.mem_cons_of_mem _ hb)) hn) fun a _ u z => addG_sub (fun b hb => List.mem_cons_of_mem _ (List.mem_cons_of_mem _ hb)) hn a u z) n n2
  | _, _, _, .dki q l1 l2 t n, hn => .dki (by unfold addG; rw [if_pos List.mem_cons_self]; exact q) l1 l2 ((OwsR.stand t fun a ha => hn a (List.mem_cons_of_mem _ ha)).keep (addG_sub (fun b hb => List.mem_cons_of_mem _ hb) hn) fun a _ u z => addG_sub (fun b hb => List.mem_cons_of_mem _ hb) hn a u z) n
  | _, _, _, .dkt q l1 l2 t n, hn => .dkt (by unfold addG; rw [if_pos List.mem_cons_self]; exact q) l1 l2 ((OwsR.stand t fun a ha => hn a (List.mem_cons_of_mem _ ha)).keep (addG_sub (fun b hb => List.mem_cons_of_mem _ hb) hn) fun a _ u z => addG_sub (fun b hb => List.mem_cons_of_mem _ hb) hn a u z) n
  | _, _, _, .dkl q l1 l2 t n, hn => .dkl (by unfold addG; rw [if_pos List.mem_cons_self]; exact q) l1 l2 ((OwsR.stand t fun a ha => hn a (List.mem_cons_of_mem _ ha)).keep (addG_sub (fun b hb => List.mem_cons_of_mem _ hb) hn) fun a _ u z => addG_sub (fun b hb => List.mem_cons_of_mem _ hb) hn a u z) n
  | _, _, _, .dtl q l1 l2 t n, hn => .dtl (by unfold addG; rw [if_pos List.mem_cons_self]; exact q) l1 l2 ((OwsR.stand t fun a ha => hn a (List.mem_cons_of_mem _ ha)).keep (addG_sub (fun b hb => List.mem_cons_of_mem _ hb) hn) fun a _ u z => addG_sub (fun b hb => List.mem_cons_of_mem _ hb) hn a u z) n
theorem OwsR.stand : ∀ {v : List V} {o : List Own} {fp : List Addr}, OwsR K G H v o fp → (∀ a ∈ fp, G a = none) → OwsR K (addG G H fp) (addG G H fp) v o fp
  | _, _, _, .nil, _ => .nil
  | _, _, _, .cons r t n, hn => .cons ((OwR.stand r fun a ha => hn a (List.mem_append_left _ ha)).keep (addG_sub (fun b hb => List.mem_append_left _ hb) hn) fun a _ u z => addG_sub (fun b hb => List.mem_append_left _ hb) hn a u z) ((OwsR.stand t fun a ha => hn a (List.mem_append_right _ ha)).keep (addG_sub (fun b hb => List.mem_append_right _ hb) hn) fun a _ u z => addG_sub (fun b hb => List.mem_append_right _ hb) hn a u z) n
end
/-- a thing of one's own stands still from now on, as it is -/
theorem Rl.standOb (r : Rl K bo G0 H0 σ H G ε n) {i : Nat} {s : Sl} {o : Own} (hi : ε[i]? = some s) (ho : s.own = some o) : ∃ G', Rl K bo G0 H0 σ H G' (ε.set i (.rd o)) n := by
  obtain ⟨fp, h1, h2, h3⟩ := r.own
  obtain ⟨v, hv, hr⟩ := h3 i s o hi ho
  have hn : ∀ a ∈ fp i, G a = none := fun a ha => (h2 i a ha).1
  have sg : Same G (addG G H (fp i)) := addG_same hn
  have hfr : ∀ c, G c = none → c ∉ fp i → addG G H (fp i) c = none := fun c q z => by
    unfold addG
    rw [if_neg z]
    exact q
  refine ⟨addG G H (fp i), ⟨r.gr.gg.trans sg, addG_up r.gh, fun c q1 q2 => hfr c (r.gr.fr c q1 q2) fun z => q1 (h2 i c z).2.2.1, r.gr.kp⟩, r.bx.keep sg fun a _ u q => q, fun a ha => hfr a (r.gb a ha) fun z => (h2 i a z).2.1 ha, by rw [List.length_set]; exact r.ln, fun j e q => ?_, fun j q => ?_, fun j o' q => ?_, ?_⟩
  · rcases get_set q with ⟨rfl, _, z⟩ | ⟨hne, q⟩
    · cases z
    · obtain ⟨w, q1, q2⟩ := r.im j e q
      exact ⟨w, q1, dp_mono sg q2⟩
  · rcases get_set q with ⟨rfl, _, z⟩ | ⟨hne, q⟩
    · cases z
    · exact r.bs j q
  · rcases get_set q with ⟨rfl, _, z⟩ | ⟨hne, q⟩
    · cases z
      exact ⟨v, _, hv, hr.stand hn⟩
    · obtain ⟨w, f, q1, q2⟩ := r.rd j o' q
      exact ⟨w, f, q1, q2.up sg⟩
  · refine ⟨fun j => if j = i then [] else fp j, fun j k a hjk ha hb => ?_, fun j a ha => ?_, fun j t u q hu => ?_⟩
    · by_cases e1 : j = i
      · simp only [if_pos e1] at ha
        cases ha
      · simp only [if_neg e1] at ha
        by_cases e2 : k = i
        · simp only [if_pos e2] at hb
          cases hb
        · simp only [if_neg e2] at hb
          exact h1 j k a hjk ha hb
    · by_cases e1 : j = i
      · simp only [if_pos e1] at ha
        cases ha
      · simp only [if_neg e1] at ha
        obtain ⟨q1, q2, q3, q4⟩ := h2 j a ha
        exact ⟨hfr a q1 fun z => h1 j i a e1 ha z, q2, q3, q4⟩
    · rcases get_set q with ⟨rfl, hi, z⟩ | ⟨hne, q⟩
      · subst z
        cases hu
      · obtain ⟨w, q3, q4⟩ := h3 j t u q hu
        refine ⟨w, q3, ?_⟩
        simp only [if_neg (Ne.symm hne)]
        exact q4.keep sg fun a ha u q => q
/-! what a slot is as data, for a look at it -/
def frzS : Sl → Sl
  | .no => .no
  | .im d => .im d
  | .ow ds => .im (.list ds)
  | .bx => .no
  | .ob o => match o.toD with
    | some d => .im d
    | none => .no
  | .rd o => .rd o
theorem get_len {α : Type} {l : List α} {i : Nat} {x : α} (h : l[i]? = some x) : i < l.length := (List.getElem?_eq_some_iff.mp h).1
/-- all one's own things stand still for a while: the one thing isn't touched -/
theorem Rl.look (r : Rl K bo G0 H0 σ H G ε n) : ∃ G', Same G G' ∧ Rl K none G' H σ H G' (ε.map frzS) n := by
  -- one by one, from the first slot on
  have step : ∀ m, m ≤ ε.length → ∃ G', Same G G' ∧ Same G' H ∧ (∀ (i : Nat) (d : PyData), ((ε.take m).map frzS ++ ε.drop m)[i]? = some (.im d) → ∃ v, σ[i]? = some (some v) ∧ Dp K G' v d) ∧
      ∃ fp : Nat → List Addr, (∀ (i j : Nat) (a : Addr), i ≠ j → a ∈ fp i → a ∉ fp j) ∧ (∀ (i : Nat) (a : Addr), m ≤ i → a ∈ fp i → G' a = none) ∧ ∀ (i : Nat) (s : Sl) (o : Own), m ≤ i → ε[i]? = some s → s.own = some o → ∃ v, σ[i]? = some (some v) ∧ OwR K G' H v o (fp i) := by
    intro m
    induction m with
    | zero =>
      intro _
      obtain ⟨fp, h1, h2, h3⟩ := r.own
      exact ⟨G, Same.refl G, r.gh, fun i d h => r.im i d (by simpa using h), fp, h1, fun i a _ ha => (h2 i a ha).1, fun i s o _ => h3 i s o⟩
    | succ m ih =>
      intro hm
      obtain ⟨G', s1, s2, him, fp, f1, f2, f3⟩ := ih (by omega)
      have hlt : m < ε.length := by omega
      have hsplit : ∀ (i : Nat), i ≠ m → ((ε.take (m + 1)).map frzS ++ ε.drop (m + 1))[i]? = ((ε.take m).map frzS ++ ε.drop m)[i]? := fun i hi => by
        by_cases q : i < m
        · rw [List.getElem?_append_left (by simp; omega), List.getElem?_append_left (by simp; omega), List.getElem?_map, List.getElem?_map, List.getElem?_take, List.getElem?_take, if_pos (by omega), if_pos q]
        · rw [List.getElem?_append_right (by simp; omega), List.getElem?_append_right (by simp; omega), List.getElem?_drop, List.getElem?_drop]
          simp only [List.length_map, List.length_take]
          congr 1
          omega
      have hat : ((ε.take (m + 1)).map frzS ++ ε.drop (m + 1))[m]? = some (frzS ε[m]) := by
        rw [List.getElem?_append_left (by simp; omega), List.getElem?_map, List.getElem?_take, if_pos (by omega), List.getElem?_eq_getElem hlt]
        rfl
      have hat0 : ((ε.take m).map frzS ++ ε.drop m)[m]? = some ε[m] := by
        rw [List.getElem?_append_right (by simp; omega), List.getElem?_drop]
        simp only [List.length_map, List.length_take]
        rw [show m + (m - min m ε.length) = m by omega, List.getElem?_eq_getElem hlt]
      have same : (∀ d, frzS ε[m] = .im d → ∃ v, σ[m]? = some (some v) ∧ Dp K G' v d) → ∃ G', Same G G' ∧ Same G' H ∧ (∀ (i : Nat) (d : PyData), ((ε.take (m + 1)).map frzS ++ ε.drop (m + 1))[i]? = some (.im d) → ∃ v, σ[i]? = some (some v) ∧ Dp K G' v d) ∧
          ∃ fp : Nat → List Addr, (∀ (i j : Nat) (a : Addr), i ≠ j → a ∈ fp i → a ∉ fp j) ∧ (∀ (i : Nat) (a : Addr), m + 1 ≤ i → a ∈ fp i → G' a = none) ∧ ∀ (i : Nat) (s : Sl) (o : Own), m + 1 ≤ i → ε[i]? = some s → s.own = some o → ∃ v, σ[i]? = some (some v) ∧ OwR K G' H v o (fp i) := fun hd => by
        refine ⟨G', s1, s2, fun i d hi => ?_, fp, f1, fun i a hi => f2 i a (by omega), fun i s o hi => f3 i s o (by omega)⟩
        by_cases e : i = m
        · subst e
          rw [hat] at hi
          exact hd d (Option.some.inj hi)
        · rw [hsplit i e] at hi
          exact him i d hi
      have own : ∀ o d, Sl.own ε[m] = some o → o.toD = some d → frzS ε[m] = .im d → ∃ G', Same G G' ∧ Same G' H ∧ (∀ (i : Nat) (d : PyData), ((ε.take (m + 1)).map frzS ++ ε.drop (m + 1))[i]? = some (.im d) → ∃ v, σ[i]? = some (some v) ∧ Dp K G' v d) ∧
          ∃ fp : Nat → List Addr, (∀ (i j : Nat) (a : Addr), i ≠ j → a ∈ fp i → a ∉ fp j) ∧ (∀ (i : Nat) (a : Addr), m + 1 ≤ i → a ∈ fp i → G' a = none) ∧ ∀ (i : Nat) (s : Sl) (o : Own), m + 1 ≤ i → ε[i]? = some s → s.own = some o → ∃ v, σ[i]? = some (some v) ∧ OwR K G' H v o (fp i) := fun o d ho hd hfz => by
        obtain ⟨v, hv, hr⟩ := f3 m _ o (Nat.le_refl _) (List.getElem?_eq_getElem hlt) ho
        have hn : ∀ a ∈ fp m, G' a = none := fun a ha => f2 m a (Nat.le_refl _) ha
        have sg : Same G' (addG G' H (fp m)) := addG_same hn
        refine ⟨addG G' H (fp m), s1.trans sg, addG_up s2, fun i e hi => ?_, fp, f1, fun i a hi ha => ?_, fun i s o hi q1 q2 => ?_⟩
        · by_cases e1 : i = m
          · subst e1
            rw [hat, hfz] at hi
            cases hi
            exact ⟨v, hv, hr.still hd hn⟩
          · rw [hsplit i e1] at hi
            obtain ⟨w, w1, w2⟩ := him i e hi
            exact ⟨w, w1, dp_mono sg w2⟩
        · unfold addG
          rw [if_neg (f1 i m a (by omega) ha)]
          exact f2 i a (by omega) ha
        · obtain ⟨w, w1, w2⟩ := f3 i s o (by omega) q1 q2
          exact ⟨w, w1, w2.keep sg fun a _ u q => q⟩
      cases he : ε[m] with
      | no => exact same fun d hd => by simp only [he, frzS, reduceCtorEq] at hd
      | bx => exact same fun d hd => by simp only [he, frzS, reduceCtorEq] at hd
      | rd o => exact same fun d hd => by simp only [he, frzS, reduceCtorEq] at hd
      | im x =>
        refine same fun d hd => ?_
        simp only [he, frzS, Sl.im.injEq] at hd
        subst hd
        exact him m x (hat0.trans (congrArg some he))
      | ow ds => exact own _ (.list ds) (by rw [he]; rfl) (by rw [Own.toD, Own.toDs_dat]; rfl) (by rw [he]; rfl)
      | ob o =>
        cases hd : o.toD with
        | none => exact same fun d hd' => by simp only [he, frzS, hd, reduceCtorEq] at hd'
        | some d => exact own o d (by rw [he]; rfl) hd (by simp only [he, frzS, hd])
  obtain ⟨G', s1, s2, him, _⟩ := step ε.length (Nat.le_refl _)
  rw [List.take_length, List.drop_length, List.append_nil] at him
  have nobx : ∀ s : Sl, frzS s ≠ .bx := fun s => by
    cases s with
    | ob o =>
      intro z
      cases hd : o.toD <;> simp only [frzS, hd, reduceCtorEq] at z
    | _ => intro z; cases z
  have noown : ∀ s : Sl, (frzS s).own = none := fun s => by
    cases s with
    | ob o => cases hd : o.toD <;> simp only [frzS, hd, Sl.own]
    | _ => rfl
  refine ⟨G', s1, Grow.refl s2, trivial, fun _ z => z.elim, by rw [List.length_map]; exact r.ln, him, fun i q => ?_, fun i o q => ?_, fun _ => [], fun _ _ _ _ h => (nomatch h), fun _ _ h => (nomatch h), fun i s o q ho => ?_⟩
  · rw [List.getElem?_map, Option.map_eq_some_iff] at q
    obtain ⟨s, _, q⟩ := q
    exact absurd q (nobx s)
  · rw [List.getElem?_map, Option.map_eq_some_iff] at q
    obtain ⟨s, q1, q⟩ := q
    have e : s = .rd o := by
      cases s with
      | rd u => exact q
      | ob u => cases hd : u.toD <;> simp only [frzS, hd, reduceCtorEq] at q
      | _ => cases q
    subst e
    obtain ⟨w, f, q2, q3⟩ := r.rd i o q1
    exact ⟨w, f, q2, q3.up s1⟩
  · rw [List.getElem?_map, Option.map_eq_some_iff] at q
    obtain ⟨t, _, rfl⟩ := q
    rw [noown t] at ho
    cases ho
end
end DL

set_option Elab.async false
set_option linter.all false
set_option autoImplicit false
set_option maxRecDepth 100000
namespace DL
open PySem PySem.Spec PyProof.Rows L2
variable {S : Type} [MSt S]

abbrev DEt (S : Type) := En → S → (PyData → S → Prop) → Prop
abbrev DTt (S : Type) := En → S → (Bool → S → Prop) → Prop
abbrev DFt (S : Type) := En → S → (List PyData → S → Prop) → Prop
abbrev DQt (S : Type) := En → S → (Bool → List PyData → S → Prop) → Prop
inductive Ag where
  | im (d : PyData) | bx | rd (o : Own)
abbrev DAt (S : Type) := En → S → (List Ag → S → Prop) → Prop
def AgR (K : PySem.W.Frag) (bo : Option Bo) (G : Hp) (v : V) : Ag → Prop
  | .im d => Dp K G v d
  | .bx => ∃ b, bo = some b ∧ v = .ref b.ad
  | .rd o => ∃ f, OwR K G G v o f
inductive AgsR (K : PySem.W.Frag) (bo : Option Bo) (G : Hp) : List V → List Ag → Prop
  | nil : AgsR K bo G [] []
  | cons {v : V} {vs : List V} {a : Ag} {as : List Ag} : AgR K bo G v a → AgsR K bo G vs as → AgsR K bo G (v :: vs) (a :: as)
theorem AgR.mono {K : PySem.W.Frag} {bo : Option Bo} {G G' : Hp} {v : V} {a : Ag} (e : Same G G') (h : AgR K bo G v a) : AgR K bo G' v a := by
  cases a with
  | im d => exact dp_mono e h
  | bx => exact h
  | rd o =>
    obtain ⟨f, h⟩ := h
    exact ⟨f, h.up e⟩
theorem AgsR.mono {K : PySem.W.Frag} {bo : Option Bo} {G G' : Hp} (e : Same G G') : ∀ {vs : List V} {as : List Ag}, AgsR K bo G vs as → AgsR K bo G' vs as
  | _, _, .nil => .nil
  | _, _, .cons h t => .cons (h.mono e) (AgsR.mono e t)
/-- a sequence: a tuple of G, or a list of H -/
def SqQ (K : PySem.W.Frag) : Bool → Hp → Hp → Addr → List V → Prop
  | true, G, _, a, xs => SqT K G a xs
  | false, _, H, a, xs => H a = some (.lst xs)

/-- nothing but new things: the box stays -/
theorem Grow.any {bo : Option Bo} {G H G' H' : Hp} (g : Grow none G H G' H') : Grow bo G H G' H' := ⟨g.gg, g.gh, g.fr, fun a o _ h => g.kp a o (fun z => nomatch z) h⟩
theorem BoxO.grow {K : PySem.W.Frag} {bo : Option Bo} {n : S} {G H G' H' : Hp} (h : BoxO K G H bo n) (g : Grow none G H G' H') : BoxO K G' H' bo n := h.keep g.gg fun a _ u q => g.kp a u (fun z => z) q
theorem Grow.mutNew {bo : Option Bo} {G H G' H' : Hp} {p : Addr} {o : HO} (g : Grow bo G H G' H') (h : H p = none) (hg : G' p = none) : Grow bo G H G' (upd H' p o) :=
  ⟨g.gg, fun a u q => by rw [upd_ne (ne_of_none q hg)]; exact g.gh a u q, g.fr, fun a u hb q => by rw [upd_ne (ne_of_none q h)]; exact g.kp a u hb q⟩

def SE (K : PySem.W.Frag) (te : TE) (de : DEt S) : Prop := ∀ (bo : Option Bo) (G0 H0 : Hp) (σ : L2.St) (H G : Hp) (ε : En) (n : S) (P : PyData → S → Prop) (Q : VK), Rl K bo G0 H0 σ H G ε n → de ε n P →
  (∀ v G' H' d n', Grow bo G H G' H' → BoxO K G' H' bo n' → Dp K G' v d → P d n' → Q v H') → te σ H Q
def STt (K : PySem.W.Frag) (tt : TT) (dt : DTt S) : Prop := ∀ (bo : Option Bo) (G0 H0 : Hp) (σ : L2.St) (H G : Hp) (ε : En) (n : S) (P : Bool → S → Prop) (Q : Bool → Hp → Prop), Rl K bo G0 H0 σ H G ε n → dt ε n P →
  (∀ b G' H' n', Grow bo G H G' H' → BoxO K G' H' bo n' → P b n' → Q b H') → tt σ H Q
def SF (K : PySem.W.Frag) (te : TE) (df : DFt S) : Prop := ∀ (bo : Option Bo) (G0 H0 : Hp) (σ : L2.St) (H G : Hp) (ε : En) (n : S) (P : List PyData → S → Prop) (Q : VK), Rl K bo G0 H0 σ H G ε n → df ε n P →
  (∀ p vs G' H' ds n', Grow bo G H G' H' → BoxO K G' H' bo n' → H p = none → G' p = none → H' p = some (.lst vs) → DpAll K G' vs ds → P ds n' → Q (.ref p) H') → te σ H Q
def SQ (K : PySem.W.Frag) (te : TE) (dq : DQt S) : Prop := ∀ (bo : Option Bo) (G0 H0 : Hp) (σ : L2.St) (H G : Hp) (ε : En) (n : S) (P : Bool → List PyData → S → Prop) (Q : VK), Rl K bo G0 H0 σ H G ε n → dq ε n P →
  (∀ a vs G' H' k ds n', Grow bo G H G' H' → BoxO K G' H' bo n' → (k = false → ¬ Has bo a) → SqQ K k G' H' a vs → DpAll K G' vs ds → P k ds n' → Q (.ref a) H') → te σ H Q
def SA (K : PySem.W.Frag) (ta : TA) (da : DAt S) : Prop := ∀ (bo : Option Bo) (G0 H0 : Hp) (σ : L2.St) (H G : Hp) (ε : En) (n : S) (P : List Ag → S → Prop) (Q : List V → Hp → Prop), Rl K bo G0 H0 σ H G ε n → da ε n P →
  (∀ vs G' H' as n', Grow bo G H G' H' → BoxO K G' H' bo n' → AgsR K bo G' vs as → P as n' → Q vs H') → ta σ H Q
structure DE (K : PySem.W.Frag) (X : Cx) (e : Expr) (te : TE) (de : DEt S) : Prop where
  pe : PE X e te
  se : SE K te de
structure DF (K : PySem.W.Frag) (X : Cx) (e : Expr) (te : TE) (de : DFt S) : Prop where
  pe : PE X e te
  se : SF K te de
structure DQ (K : PySem.W.Frag) (X : Cx) (e : Expr) (te : TE) (de : DQt S) : Prop where
  pe : PE X e te
  se : SQ K te de
structure DT (K : PySem.W.Frag) (X : Cx) (e : Expr) (te : TT) (de : DTt S) : Prop where
  pt : PT X e te
  se : STt K te de
structure DW (K : PySem.W.Frag) (X : Cx) (e : Expr) (te : TT) (de : DTt S) : Prop where
  pw : PW X e te
  se : STt K te de
structure DA (K : PySem.W.Frag) (X : Cx) (e : List Expr) (te : TA) (de : DAt S) : Prop where
  pa : PA X e te
  se : SA K te de
/-- a two-place operation on data -/
abbrev F2 := PyData → PyData → (PyData → Prop) → Prop
def OpS (K : PySem.W.Frag) (r : R2) (F : F2) : Prop := ∀ (G H : Hp) (x y : V) (dx dy : PyData) (C : PyData → Prop) (Q : VK), Same G H → Dp K G x dx → Dp K G y dy → F dx dy C →
  (∀ v G' H' d, Grow none G H G' H' → Dp K G' v d → C d → Q v H') → r x y H Q

section
variable {X : Cx} {K : PySem.W.Frag} {e a b c : Expr} {ta tb tc te : TE} {da db dc de : DEt S} {pos : Pos}
/-! names, constants -/
omit [MSt S] in
def dVar (i : Nat) : DEt S := fun ε n P => ∃ d, ε[i]? = some (.im d) ∧ P d n
theorem se_var (i : Nat) : SE K (tVar i) (dVar (S := S) i) := fun bo G0 H0 σ H G ε n P Q r h k => by
  obtain ⟨d, h1, h2⟩ := h
  obtain ⟨v, e1, e2⟩ := r.im i d h1
  exact ⟨v, e1, k v G H d n (Grow.refl r.gh) r.bx e2 h2⟩
theorem de_var (i : Nat) {x : Str} (hN : X.N[i]? = some x := by rfl) (hv : Vis X.env.scope x := by first | exact Or.inl rfl | exact Or.inr (Or.inl rfl) | exact Or.inr (Or.inr rfl)) (hd : (x == ("__debug__" : Str)) = false := by decide)
    (hcd : (x == ("__classdict__" : Str)) = false := by decide) (hK : X.K = K := by rfl) : DE K X (.Name x pos) (tVar i) (dVar (S := S) i) := by
  subst hK
  exact ⟨pe_var hN hv hd hcd, se_var i⟩
omit [MSt S] in
def dC (d : PyData) : DEt S := fun _ n P => P d n
theorem se_c {v : V} {d : PyData} (h : ∀ G, Dp K G v d) : SE K (tC v) (dC (S := S) d) := fun bo G0 H0 σ H G ε n P Q r hp k => k v G H d n (Grow.refl r.gh) r.bx (h G) hp
theorem de_int {i : Int} {j} (hK : X.K = K := by rfl) : DE K X (.Constant (.int i) j pos) (tC (.int i)) (dC (S := S) (.int i)) := by
  subst hK
  exact ⟨pe_int, se_c fun _ => .int i⟩
theorem de_bl {i : Bool} {j} (hK : X.K = K := by rfl) : DE K X (.Constant (.bool i) j pos) (tC (.bl i)) (dC (S := S) (.bool i)) := by
  subst hK
  exact ⟨pe_bl, se_c fun _ => .bl i⟩
theorem de_non {j} (hK : X.K = K := by rfl) : DE K X (.Constant .none j pos) (tC .non) (dC (S := S) .none) := by
  subst hK
  exact ⟨pe_non, se_c fun _ => .non⟩
theorem de_str {x : Str} {j} (hK : X.K = K := by rfl) : DE K X (.Constant (.str x) j pos) (tC (.str x)) (dC (S := S) (.str x)) := by
  subst hK
  exact ⟨pe_str, se_c fun _ => .str x⟩
  
/-! operators -/
omit [MSt S] in
def dOp (F : F2) (da db : DEt S) : DEt S := fun ε n P => da ε n fun x n1 => db ε n1 fun y n2 => F x y fun z => P z n2
theorem se_op {r : R2} {F : F2} (hr : OpS K r F) (ha : SE K ta da) (hb : SE K tb db) : SE K (tOp r ta tb) (dOp F da db) := fun bo G0 H0 σ H G ε n P Q R h k =>
  ha bo G0 H0 σ H G ε n _ _ R h fun x G1 H1 dx n1 g1 b1 p1 h1 =>
  hb bo G0 H0 σ H1 G1 ε n1 _ _ (R.grow g1 b1) h1 fun y G2 H2 dy n2 g2 b2 p2 h2 =>
  hr G2 H2 x y dx dy _ _ g2.gh (dp_mono g2.gg p1) p2 h2 fun v G3 H3 d g3 p3 h3 =>
  k v G3 H3 d n2 ((g1.trans b1 g2).trans b2 g3.any) (b2.grow g3) p3 h3
theorem de_op {op : Operator} {r : R2} {F : F2} (ho : OpR X (binaryOp op) r) (hs : OpS K r F) (ha : DE K X a ta da) (hb : DE K X b tb db) (hK : X.K = K := by rfl) : DE K X (.BinOp a op b pos) (tOp r ta tb) (dOp F da db) := by
  subst hK
  exact ⟨pe_op ho ha.pe hb.pe, se_op hs ha.se hb.se⟩
theorem de_cmp {op : CmpOp} {r : R2} {F : F2} (ho : OpR X (compareOp op) r) (hs : OpS K r F) (ha : DE K X a ta da) (hb : DE K X b tb db) (hm : behindInMarks op b = false) (hK : X.K = K := by rfl) : DE K X (.Compare a [op] [b] pos) (tOp r ta tb) (dOp F da db) := by
  subst hK
  exact ⟨pe_cmpR ho ha.pe hb.pe hm, se_op hs ha.se hb.se⟩
def fI (C : Int → Int → Prop) (g : Int → Int → PyData) : F2
  | .int i, .int j, P => C i j ∧ P (g i j)
  | _, _, _ => False
theorem ops_I0 {g : Int → Int → V} {g' : Int → Int → PyData} (hg : ∀ i j G, Dp K G (g i j) (g' i j)) : OpS K (rI0 g) (fI (fun _ _ => True) g') := fun G H x y dx dy C Q s hx hy h k => by
  cases hx with
  | int i => cases hy with
    | int j => exact ⟨i, j, rfl, rfl, k _ G H _ (Grow.refl s) (hg i j G) h.2⟩
    | _ => exact h.elim
  | _ => exact h.elim
theorem ops_I {Cc : Int → Int → Prop} {g : Int → Int → V} {g' : Int → Int → PyData} (hg : ∀ i j G, Dp K G (g i j) (g' i j)) : OpS K (rI Cc g) (fI Cc g') := fun G H x y dx dy C Q s hx hy h k => by
  cases hx with
  | int i => cases hy with
    | int j => exact ⟨i, j, rfl, rfl, h.1, k _ G H _ (Grow.refl s) (hg i j G) h.2⟩
    | _ => exact h.elim
  | _ => exact h.elim
abbrev fN (g : Int → Int → PyData) : F2 := fI (fun _ _ => True) g
theorem de_add (ha : DE K X a ta da) (hb : DE K X b tb db) (hK : X.K = K := by rfl) : DE K X (.BinOp a .Add b pos) (tOp (rI0 fun i j => .int (i + j)) ta tb) (dOp (fN fun i j => .int (i + j)) da db) := by
  subst hK
  exact de_op op_add (ops_I0 fun _ _ _ => .int _) ha hb
theorem de_sub (ha : DE K X a ta da) (hb : DE K X b tb db) (hK : X.K = K := by rfl) : DE K X (.BinOp a .Sub b pos) (tOp (rI0 fun i j => .int (i - j)) ta tb) (dOp (fN fun i j => .int (i - j)) da db) := by
  subst hK
  exact de_op op_sub (ops_I0 fun _ _ _ => .int _) ha hb
theorem de_mul (ha : DE K X a ta da) (hb : DE K X b tb db) (hK : X.K = K := by rfl) : DE K X (.BinOp a .Mult b pos) (tOp (rI CMul fun i j => .int (i * j)) ta tb) (dOp (fI CMul fun i j => .int (i * j)) da db) := by
  subst hK
  exact de_op op_mul (ops_I fun _ _ _ => .int _) ha hb
theorem de_mod (ha : DE K X a ta da) (hb : DE K X b tb db) (hK : X.K = K := by rfl) : DE K X (.BinOp a .Mod b pos) (tOp (rI (fun _ j => 0 < j) fun i j => .int (i % j)) ta tb) (dOp (fI (fun _ j => 0 < j) fun i j => .int (i % j)) da db) := by
  subst hK
  exact de_op op_mod (ops_I fun _ _ _ => .int _) ha hb
theorem de_fdiv (ha : DE K X a ta da) (hb : DE K X b tb db) (hK : X.K = K := by rfl) : DE K X (.BinOp a .FloorDiv b pos) (tOp (rI CDiv fun i j => .int (i / j)) ta tb) (dOp (fI CDiv fun i j => .int (i / j)) da db) := by
  subst hK
  exact de_op op_fdiv (ops_I fun _ _ _ => .int _) ha hb
theorem de_lt (ha : DE K X a ta da) (hb : DE K X b tb db) (hK : X.K = K := by rfl) : DE K X (.Compare a [.Lt] [b] pos) (tOp (rI0 fun i j => .bl (decide (i < j))) ta tb) (dOp (fN fun i j => .bool (decide (i < j))) da db) := by
  subst hK
  exact de_cmp op_lt (ops_I0 fun _ _ _ => .bl _) ha hb (nomark _)
theorem de_le (ha : DE K X a ta da) (hb : DE K X b tb db) (hK : X.K = K := by rfl) : DE K X (.Compare a [.LtE] [b] pos) (tOp (rI0 fun i j => .bl (decide (i ≤ j))) ta tb) (dOp (fN fun i j => .bool (decide (i ≤ j))) da db) := by
  subst hK
  exact de_cmp op_le (ops_I0 fun _ _ _ => .bl _) ha hb (nomark _)
theorem de_gt (ha : DE K X a ta da) (hb : DE K X b tb db) (hK : X.K = K := by rfl) : DE K X (.Compare a [.Gt] [b] pos) (tOp (rI0 fun i j => .bl (decide (j < i))) ta tb) (dOp (fN fun i j => .bool (decide (j < i))) da db) := by
  subst hK
  exact de_cmp op_gt (ops_I0 fun _ _ _ => .bl _) ha hb (nomark _)
theorem de_ge (ha : DE K X a ta da) (hb : DE K X b tb db) (hK : X.K = K := by rfl) : DE K X (.Compare a [.GtE] [b] pos) (tOp (rI0 fun i j => .bl (decide (j ≤ i))) ta tb) (dOp (fN fun i j => .bool (decide (j ≤ i))) da db) := by
  subst hK
  exact de_cmp op_ge (ops_I0 fun _ _ _ => .bl _) ha hb (nomark _)
/-- == and != of any data -/
def fEq (neg : Bool) : F2 := fun x y C => SeqAt.shaped x = true ∧ SeqAt.shaped y = true ∧ C (.bool (if neg then !PyData.eqv x y else PyData.eqv x y))
theorem ops_eq : OpS K (rEqD K) (fEq false) := fun G H x y dx dy C Q s hx hy h k => ⟨dx, dy, (dp_mono s hx).l2, (dp_mono s hy).l2, h.1, h.2.1, k _ G H _ (Grow.refl s) (.bl _) h.2.2⟩
theorem ops_ne : OpS K (rNeD K) (fEq true) := fun G H x y dx dy C Q s hx hy h k => ⟨dx, dy, (dp_mono s hx).l2, (dp_mono s hy).l2, h.1, h.2.1, k _ G H _ (Grow.refl s) (.bl _) h.2.2⟩
theorem de_eq (hu : X.A.units + 64 < cLine) (ha : DE K X a ta da) (hb : DE K X b tb db) (hK : X.K = K := by rfl) : DE K X (.Compare a [.Eq] [b] pos) (tOp (rEqD K) ta tb) (dOp (fEq false) da db) := by
  subst hK
  exact de_cmp (op_eqD hu) ops_eq ha hb (nomark _)
theorem de_ne (hu : X.A.units + 64 < cLine) (ha : DE K X a ta da) (hb : DE K X b tb db) (hK : X.K = K := by rfl) : DE K X (.Compare a [.NotEq] [b] pos) (tOp (rNeD K) ta tb) (dOp (fEq true) da db) := by
  subst hK
  exact de_cmp (op_neD hu) ops_ne ha hb (nomark _)
/-- is None, is not None -/
def isN : PyData → Bool
  | .none => true
  | _ => false
def fIsN (neg : Bool) : F2 := fun x y C => y = .none ∧ C (.bool (if neg then !isN x else isN x))
theorem isN_of {G : Hp} {x : V} {d : PyData} (h : Dp K G x d) : decide (x = .non) = isN d := by cases h <;> rfl
theorem de_isN (ha : DE K X a ta da) (hb : DE K X b tb db) (hK : X.K = K := by rfl) : DE K X (.Compare a [.Is] [b] pos) (tOp (fun x y H Q => y = .non ∧ Q (.bl (decide (x = .non))) H) ta tb) (dOp (fIsN false) da db) := by
  subst hK
  exact de_cmp op_isN (fun G H x y dx dy C Q s hx hy h k => by
    obtain ⟨rfl, h⟩ := h
    cases hy
    refine ⟨rfl, k _ G H _ (Grow.refl s) (.bl _) ?_⟩
    rw [isN_of hx]
    exact h) ha hb (nomark _)
theorem de_notN (ha : DE K X a ta da) (hb : DE K X b tb db) (hK : X.K = K := by rfl) : DE K X (.Compare a [.IsNot] [b] pos) (tOp (fun x y H Q => y = .non ∧ Q (.bl (!decide (x = .non))) H) ta tb) (dOp (fIsN true) da db) := by
  subst hK
  exact de_cmp op_notN (fun G H x y dx dy C Q s hx hy h k => by
    obtain ⟨rfl, h⟩ := h
    cases hy
    refine ⟨rfl, k _ G H _ (Grow.refl s) (.bl _) ?_⟩
    rw [isN_of hx]
    exact h) ha hb (nomark _)
  
/-! truth, and, or, not, if -/
omit [MSt S] in
def dTst (de : DEt S) : DTt S := fun ε n P => de ε n fun d n1 => ∃ b, d = .bool b ∧ P b n1
theorem st_B (h : SE K te de) : STt K (tB te) (dTst de) := fun bo G0 H0 σ H G ε n P Q R hp k => h bo G0 H0 σ H G ε n _ _ R hp fun v G1 H1 d n1 g1 b1 p1 h1 => by
  obtain ⟨b, rfl, h1⟩ := h1
  cases p1
  exact ⟨b, rfl, k b G1 H1 n1 g1 b1 h1⟩
/-- a test by a value that is a bool -/
theorem dt_val (h : DE K X e te de) (he : ∀ whole, isTrue e X.env whole = (do let v ← whole; standAt e.pos; holding [v] (truthy v)) := by intro _; rfl) (hK : X.K = K := by rfl) : DT K X e (tB te) (dTst de) := by
  subst hK
  exact ⟨pt_val h.pe he, st_B h.se⟩
omit [MSt S] in
def dNotT (dt : DTt S) : DTt S := fun ε n P => dt ε n fun b n1 => P (!b) n1
omit [MSt S] in
def dAndT (dt du : DTt S) : DTt S := fun ε n P => dt ε n fun b n1 => if b = true then du ε n1 P else P false n1
omit [MSt S] in
def dOrT (dt du : DTt S) : DTt S := fun ε n P => dt ε n fun b n1 => if b = true then P true n1 else du ε n1 P
section
variable {tA tB' : TT} {dt du : DTt S} {rest : List Expr}
theorem dt_not (h : DT K X a tA dt) (hK : X.K = K := by rfl) : DT K X (.UnaryOp .Not a pos) (tNot tA) (dNotT dt) := by
  subst hK
  exact ⟨pt_not h.pt, fun bo G0 H0 σ H G ε n P Q R hp k => h.se bo G0 H0 σ H G ε n _ _ R hp fun b G1 H1 n1 g1 b1 h1 => k _ G1 H1 n1 g1 b1 h1⟩
theorem dw_and1 (h : DT K X a tA dt) (hK : X.K = K := by rfl) : DW K X (.BoolOp .And [a] pos) tA dt := by
  subst hK
  exact ⟨pw_and1 h.pt, h.se⟩
theorem dw_or1 (h : DT K X a tA dt) (hK : X.K = K := by rfl) : DW K X (.BoolOp .Or [a] pos) tA dt := by
  subst hK
  exact ⟨pw_or1 h.pt, h.se⟩
theorem dw_and (ha : DT K X a tA dt) (hb : DW K X (.BoolOp .And (b :: rest) pos) tB' du) (hK : X.K = K := by rfl) : DW K X (.BoolOp .And (a :: b :: rest) pos) (tAnd tA tB') (dAndT dt du) := by
  subst hK
  exact ⟨pw_and ha.pt hb.pw, fun bo G0 H0 σ H G ε n P Q R hp k =>
    ha.se bo G0 H0 σ H G ε n _ _ R hp fun z G1 H1 n1 g1 b1 h1 => by
      cases z with
      | true => exact hb.se bo G0 H0 σ H1 G1 ε n1 _ _ (R.grow g1 b1) h1 fun y G2 H2 n2 g2 b2 h2 => k y G2 H2 n2 (g1.trans b1 g2) b2 h2
      | false => exact k false G1 H1 n1 g1 b1 h1⟩
theorem dw_or (ha : DT K X a tA dt) (hb : DW K X (.BoolOp .Or (b :: rest) pos) tB' du) (hK : X.K = K := by rfl) : DW K X (.BoolOp .Or (a :: b :: rest) pos) (tOr tA tB') (dOrT dt du) := by
  subst hK
  exact ⟨pw_or ha.pt hb.pw, fun bo G0 H0 σ H G ε n P Q R hp k =>
    ha.se bo G0 H0 σ H G ε n _ _ R hp fun z G1 H1 n1 g1 b1 h1 => by
      cases z with
      | false => exact hb.se bo G0 H0 σ H1 G1 ε n1 _ _ (R.grow g1 b1) h1 fun y G2 H2 n2 g2 b2 h2 => k y G2 H2 n2 (g1.trans b1 g2) b2 h2
      | true => exact k true G1 H1 n1 g1 b1 h1⟩
theorem dw_dt (h : DW K X e tA dt) (hK : X.K = K := by rfl) : DT K X e tA dt := by
  subst hK
  exact ⟨h.pw.pt, h.se⟩
omit [MSt S] in
/-- as values -/
def dAndV (da db : DEt S) : DEt S := fun ε n P => da ε n fun x n1 => ∃ c, x = .bool c ∧ if c = true then db ε n1 P else P (.bool false) n1
omit [MSt S] in
def dOrV (da db : DEt S) : DEt S := fun ε n P => da ε n fun x n1 => ∃ c, x = .bool c ∧ if c = true then P (.bool true) n1 else db ε n1 P
omit [MSt S] in
def dNotV (da : DEt S) : DEt S := fun ε n P => da ε n fun x n1 => ∃ c, x = .bool c ∧ P (.bool (!c)) n1
theorem de_one {op} (h : DE K X a te de) (hK : X.K = K := by rfl) : DE K X (.BoolOp op [a] pos) te de := by
  subst hK
  exact ⟨pe_one h.pe, h.se⟩
theorem de_and (ha : DE K X a ta da) (hb : DE K X (.BoolOp .And (b :: rest) pos) tb db) (hK : X.K = K := by rfl) : DE K X (.BoolOp .And (a :: b :: rest) pos) (tAndV ta tb) (dAndV da db) := by
  subst hK
  exact ⟨pe_and ha.pe hb.pe, fun bo G0 H0 σ H G ε n P Q R hp k =>
    ha.se bo G0 H0 σ H G ε n _ _ R hp fun v G1 H1 d n1 g1 b1 p1 h1 => by
      obtain ⟨c, rfl, h1⟩ := h1
      cases p1
      refine ⟨c, rfl, ?_⟩
      cases c with
      | true => exact hb.se bo G0 H0 σ H1 G1 ε n1 _ _ (R.grow g1 b1) h1 fun y G2 H2 d2 n2 g2 b2 p2 h2 => k y G2 H2 d2 n2 (g1.trans b1 g2) b2 p2 h2
      | false => exact k _ G1 H1 _ n1 g1 b1 (.bl false) h1⟩
theorem de_or (ha : DE K X a ta da) (hb : DE K X (.BoolOp .Or (b :: rest) pos) tb db) (hK : X.K = K := by rfl) : DE K X (.BoolOp .Or (a :: b :: rest) pos) (tOrV ta tb) (dOrV da db) := by
  subst hK
  exact ⟨pe_or ha.pe hb.pe, fun bo G0 H0 σ H G ε n P Q R hp k =>
    ha.se bo G0 H0 σ H G ε n _ _ R hp fun v G1 H1 d n1 g1 b1 p1 h1 => by
      obtain ⟨c, rfl, h1⟩ := h1
      cases p1
      refine ⟨c, rfl, ?_⟩
      cases c with
      | false => exact hb.se bo G0 H0 σ H1 G1 ε n1 _ _ (R.grow g1 b1) h1 fun y G2 H2 d2 n2 g2 b2 p2 h2 => k y G2 H2 d2 n2 (g1.trans b1 g2) b2 p2 h2
      | true => exact k _ G1 H1 _ n1 g1 b1 (.bl true) h1⟩
theorem de_not (ha : DE K X a ta da) (hK : X.K = K := by rfl) : DE K X (.UnaryOp .Not a pos) (tNotV ta) (dNotV da) := by
  subst hK
  exact ⟨pe_not ha.pe, fun bo G0 H0 σ H G ε n P Q R hp k =>
    ha.se bo G0 H0 σ H G ε n _ _ R hp fun v G1 H1 d n1 g1 b1 p1 h1 => by
      obtain ⟨c, rfl, h1⟩ := h1
      cases p1
      exact ⟨c, rfl, k _ G1 H1 _ n1 g1 b1 (.bl _) h1⟩⟩
omit [MSt S] in
def dIf (dt : DTt S) (da db : DEt S) : DEt S := fun ε n P => dt ε n fun c n1 => if c = true then da ε n1 P else db ε n1 P
theorem de_if (hc : DT K X c tA dt) (ha : DE K X a ta da) (hb : DE K X b tb db) (hK : X.K = K := by rfl) : DE K X (.IfExp c a b pos) (tIf tA ta tb) (dIf dt da db) := by
  subst hK
  exact ⟨pe_ifExp hc.pt ha.pe hb.pe, fun bo G0 H0 σ H G ε n P Q R hp k =>
    hc.se bo G0 H0 σ H G ε n _ _ R hp fun z G1 H1 n1 g1 b1 h1 => by
      cases z with
      | true => exact ha.se bo G0 H0 σ H1 G1 ε n1 _ _ (R.grow g1 b1) h1 fun y G2 H2 d2 n2 g2 b2 p2 h2 => k y G2 H2 d2 n2 (g1.trans b1 g2) b2 p2 h2
      | false => exact hb.se bo G0 H0 σ H1 G1 ε n1 _ _ (R.grow g1 b1) h1 fun y G2 H2 d2 n2 g2 b2 p2 h2 => k y G2 H2 d2 n2 (g1.trans b1 g2) b2 p2 h2⟩
end

/-! fresh lists, sequences -/
omit [MSt S] in
def dFz (df : DFt S) : DEt S := fun ε n P => df ε n fun ds n1 => P (.list ds) n1
theorem df_de {df : DFt S} (h : DF K X e te df) (hK : X.K = K := by rfl) : DE K X e te (dFz df) := by
  subst hK
  exact ⟨h.pe, fun bo G0 H0 σ H G ε n P Q R hp k =>
    h.se bo G0 H0 σ H G ε n _ _ R hp fun p vs G1 H1 ds n1 g1 b1 hp0 hg hH hd h1 =>
      k (.ref p) (upd G1 p (.lst vs)) H1 (.list ds) n1 (g1.keep hp0 hg hH) (b1.keep (same_new hg) fun _ _ _ q => q) (.lst upd_same (dpa_mono (same_new hg) hd)) h1⟩
def seqD : PyData → Option (Bool × List PyData)
  | .list ds => some (false, ds)
  | .tuple ds => some (true, ds)
  | _ => none
omit [MSt S] in
def dSq (de : DEt S) : DQt S := fun ε n P => de ε n fun d n1 => ∃ k ds, seqD d = some (k, ds) ∧ P k ds n1
theorem dp_seq {G : Hp} {v : V} {d : PyData} {k : Bool} {ds : List PyData} (h : Dp K G v d) (e : seqD d = some (k, ds)) : ∃ a vs, v = .ref a ∧ SqQ K k G G a vs ∧ DpAll K G vs ds := by
  cases h with
  | lst s h =>
    cases e
    exact ⟨_, _, rfl, s, h⟩
  | tup s h =>
    cases e
    exact ⟨_, _, rfl, s, h⟩
  | _ => cases e
theorem de_dq (h : DE K X e te de) (hK : X.K = K := by rfl) : DQ K X e te (dSq de) := by
  subst hK
  exact ⟨h.pe, fun bo G0 H0 σ H G ε n P Q R hp k =>
    h.se bo G0 H0 σ H G ε n _ _ R hp fun v G1 H1 d n1 g1 b1 p1 h1 => by
      obtain ⟨kk, ds, e1, h1⟩ := h1
      obtain ⟨a, vs, rfl, s, ha⟩ := dp_seq p1 e1
      refine k a vs G1 H1 kk ds n1 g1 b1 (fun ek eb => ?_) ?_ ha h1
      · subst ek
        have := (R.grow g1 b1).gb a eb
        rw [show G1 a = some (.lst vs) from s] at this
        cases this
      · cases kk with
        | true => exact s
        | false => exact g1.gh a _ s⟩
omit [MSt S] in
def dFq (df : DFt S) : DQt S := fun ε n P => df ε n fun ds n1 => P false ds n1
theorem df_dq {df : DFt S} (h : DF K X e te df) (hK : X.K = K := by rfl) : DQ K X e te (dFq df) := by
  subst hK
  exact ⟨h.pe, fun bo G0 H0 σ H G ε n P Q R hp k =>
    h.se bo G0 H0 σ H G ε n _ _ R hp fun p vs G1 H1 ds n1 g1 b1 hp0 hg hH hd h1 => k p vs G1 H1 false ds n1 g1 b1 (fun _ e => (R.bx.some_ne e) hp0) hH hd h1⟩
omit [MSt S] in
/-- a list of its own, read -/
def dOwn (i : Nat) : DQt S := fun ε n P => ∃ ds, ε[i]? = some (.ow ds) ∧ P false ds n
theorem dq_own (i : Nat) {x : Str} (hN : X.N[i]? = some x := by rfl) (hv : Vis X.env.scope x := by first | exact Or.inl rfl | exact Or.inr (Or.inl rfl) | exact Or.inr (Or.inr rfl)) (hd : (x == ("__debug__" : Str)) = false := by decide)
    (hcd : (x == ("__classdict__" : Str)) = false := by decide) (hK : X.K = K := by rfl) : DQ K X (.Name x pos) (tVar i) (dOwn (S := S) i) := by
  subst hK
  exact ⟨pe_var hN hv hd hcd, fun bo G0 H0 σ H G ε n P Q R hp k => by
    obtain ⟨ds, h1, h2⟩ := hp
    obtain ⟨a, vs, e1, e2, _, e4, _, e3⟩ := R.ow i ds h1
    exact ⟨.ref a, e1, k a vs G H false ds n (Grow.refl R.gh) R.bx (fun _ => e4) e2 e3 h2⟩⟩
  
/-! arguments -/
omit [MSt S] in
def dNil : DAt S := fun _ n P => P [] n
omit [MSt S] in
def dCons (de : DEt S) (da : DAt S) : DAt S := fun ε n P => de ε n fun d n1 => da ε n1 fun as n2 => P (.im d :: as) n2
omit [MSt S] in
def dConsB (i : Nat) (da : DAt S) : DAt S := fun ε n P => ε[i]? = some .bx ∧ da ε n fun as n2 => P (.bx :: as) n2
theorem da_nil (hK : X.K = K := by rfl) : DA K X [] tNil (dNil (S := S)) := by
  subst hK
  exact ⟨pa_nil, fun bo G0 H0 σ H G ε n P Q R hp k => k [] G H [] n (Grow.refl R.gh) R.bx .nil hp⟩
theorem da_cons {es : List Expr} {t : TA} {dr : DAt S} (ha : DE K X e te de) (hr : DA K X es t dr) (hs : starEach (e :: es) X.env = (false, eval e X.env) :: starEach es X.env := by rfl) (hK : X.K = K := by rfl) : DA K X (e :: es) (tCons te t) (dCons de dr) := by
  subst hK
  exact ⟨pa_cons ha.pe hr.pa hs, fun bo G0 H0 σ H G ε n P Q R hp k => ha.se bo G0 H0 σ H G ε n _ _ R hp fun v G1 H1 d n1 g1 b1 p1 h1 =>
      hr.se bo G0 H0 σ H1 G1 ε n1 _ _ (R.grow g1 b1) h1 fun vs G2 H2 as n2 g2 b2 p2 h2 => k _ G2 H2 _ n2 (g1.trans b1 g2) b2 (.cons (a := .im d) (dp_mono g2.gg p1) p2) h2⟩
theorem da_box (i : Nat) {x : Str} {es : List Expr} {t : TA} {dr : DAt S} (hr : DA K X es t dr) (hN : X.N[i]? = some x := by rfl) (hv : Vis X.env.scope x := by first | exact Or.inl rfl | exact Or.inr (Or.inl rfl) | exact Or.inr (Or.inr rfl))
    (hd : (x == ("__debug__" : Str)) = false := by decide) (hcd : (x == ("__classdict__" : Str)) = false := by decide) (hs : starEach (.Name x pos :: es) X.env = (false, eval (.Name x pos) X.env) :: starEach es X.env := by rfl) (hK : X.K = K := by rfl) :
    DA K X (.Name x pos :: es) (tCons (tVar i) t) (dConsB i dr) := by
  subst hK
  exact ⟨pa_cons (pe_var hN hv hd hcd) hr.pa hs, fun bo G0 H0 σ H G ε n P Q R hp k => by
    obtain ⟨h1, h2⟩ := hp
    obtain ⟨b, e1, e2⟩ := R.bs i h1
    exact ⟨.ref b.ad, e2, hr.se bo G0 H0 σ H G ε n _ _ R h2 fun vs G2 H2 as n2 g2 b2 p2 h2 => k _ G2 H2 _ n2 g2 b2 (.cons (a := .bx) ⟨b, e1, rfl⟩ p2) h2⟩⟩
omit [MSt S] in
def dConsR (i : Nat) (da : DAt S) : DAt S := fun ε n P => ∃ o, ε[i]? = some (.rd o) ∧ da ε n fun as n2 => P (.rd o :: as) n2
theorem da_rd (i : Nat) {x : Str} {es : List Expr} {t : TA} {dr : DAt S} (hr : DA K X es t dr) (hN : X.N[i]? = some x := by rfl) (hv : Vis X.env.scope x := by first | exact Or.inl rfl | exact Or.inr (Or.inl rfl) | exact Or.inr (Or.inr rfl))
    (hd : (x == ("__debug__" : Str)) = false := by decide) (hcd : (x == ("__classdict__" : Str)) = false := by decide) (hs : starEach (.Name x pos :: es) X.env = (false, eval (.Name x pos) X.env) :: starEach es X.env := by rfl) (hK : X.K = K := by rfl) :
    DA K X (.Name x pos :: es) (tCons (tVar i) t) (dConsR i dr) := by
  subst hK
  exact ⟨pa_cons (pe_var hN hv hd hcd) hr.pa hs, fun bo G0 H0 σ H G ε n P Q R hp k => by
    obtain ⟨o, h1, h2⟩ := hp
    obtain ⟨v, f, e1, e2⟩ := R.rd i o h1
    exact ⟨v, e1, hr.se bo G0 H0 σ H G ε n _ _ R h2 fun vs G2 H2 as n2 g2 b2 p2 h2 => k _ G2 H2 _ n2 g2 b2 (.cons (a := .rd o) ⟨f, e2.up g2.gg⟩ p2) h2⟩⟩
/-! displays -/
def agD : List Ag → Option (List PyData)
  | [] => some []
  | .im d :: r => (agD r).map (d :: ·)
  | .bx :: _ => none
  | .rd _ :: _ => none
theorem ags_data {bo : Option Bo} {G : Hp} : ∀ {vs : List V} {as : List Ag} {ds : List PyData}, AgsR K bo G vs as → agD as = some ds → DpAll K G vs ds
  | _, _, ds, .nil, h => by
    cases h
    exact .nil
  | _, .im d :: r, ds, .cons h t, e => by
    cases q : agD r with
    | none =>
      simp only [agD, q] at e
      cases e
    | some es =>
      simp only [agD, q] at e
      cases e
      exact .cons h (ags_data t q)
  | _, .bx :: r, ds, .cons h t, e => by cases e
  | _, .rd _ :: r, ds, .cons h t, e => by cases e
theorem dpa_len {G : Hp} : ∀ {vs : List V} {ds : List PyData}, DpAll K G vs ds → vs.length = ds.length
  | _, _, .nil => rfl
  | _, _, .cons _ t => by
    rw [List.length_cons, List.length_cons, dpa_len t]
omit [MSt S] in
def dLst (da : DAt S) : DFt S := fun ε n P => da ε n fun as n1 => ∃ ds, agD as = some ds ∧ ds.length ≤ 100000 ∧ P ds n1
omit [MSt S] in
def dTup (da : DAt S) : DEt S := fun ε n P => da ε n fun as n1 => ∃ ds, agD as = some ds ∧ ds.length ≤ 100000 ∧ P (.tuple ds) n1
theorem sz {n : Nat} (h : n ≤ 100000) : n ≤ sizeLine := Nat.le_trans h (by decide)
theorem szl {n : Nat} (h : n < 100000) : n < sizeLine := Nat.lt_of_lt_of_le h (by decide)
theorem df_lst {es : List Expr} {t : TA} {da : DAt S} (h : DA K X es t da) (hK : X.K = K := by rfl) : DF K X (.List es pos) (tLst t) (dLst da) := by
  subst hK
  exact ⟨pe_lst h.pa, fun bo G0 H0 σ H G ε n P Q R hp k =>
    h.se bo G0 H0 σ H G ε n _ _ R hp fun vs G1 H1 as n1 g1 b1 p1 h1 => by
      obtain ⟨ds, e1, e2, h1⟩ := h1
      have hd := ags_data p1 e1
      refine ⟨sz (by rw [dpa_len hd]; exact e2), fun p hpn => ?_⟩
      have hpH : H p = none := by
        cases q : H p with
        | none => rfl
        | some o =>
          by_cases e : Has bo p
          · exact absurd hpn (b1.some_ne e)
          · rw [g1.kp p o e q] at hpn
            cases hpn
      exact k p vs G1 _ ds n1 (g1.trans b1 (Grow.out g1.gh hpn)) (b1.grow (Grow.out (G := G1) g1.gh hpn)) hpH (g1.gh.free hpn) upd_same hd h1⟩
theorem de_tup {x1} {es : List Expr} {t : TA} {da : DAt S} (h : DA K X es t da) (hK : X.K = K := by rfl) : DE K X (.Tuple es x1 pos) (tTup t) (dTup da) := by
  subst hK
  exact ⟨pe_tup h.pa, fun bo G0 H0 σ H G ε n P Q R hp k =>
    h.se bo G0 H0 σ H G ε n _ _ R hp fun vs G1 H1 as n1 g1 b1 p1 h1 => by
      obtain ⟨ds, e1, e2, h1⟩ := h1
      have hd := ags_data p1 e1
      refine ⟨sz (by rw [dpa_len hd]; exact e2), fun p hpn => ?_⟩
      exact k (.ref p) (upd G1 p (.tup vs)) _ (.tuple ds) n1 (g1.trans b1 (Grow.into g1.gh hpn)) (b1.grow (Grow.into (G := G1) g1.gh hpn)) (.tup (.inl (.inl upd_same)) (dpa_mono (same_new (g1.gh.free hpn)) hd)) h1⟩
end
end DL

set_option Elab.async false
set_option linter.all false
set_option autoImplicit false
set_option maxRecDepth 100000
namespace DL
open PySem PySem.Spec PyProof.Rows L2
variable {S : Type} [MSt S]

theorem wipe_set (σ : L2.St) (i : Nat) (x : Option V) : ∀ vs : List Nat, wipe (σ.set i x) vs = if i ∈ vs then wipe σ vs else (wipe σ vs).set i x
  | [] => by rw [if_neg (by simp)]; rfl
  | v :: vs => by
    show (wipe (σ.set i x) vs).set v none = _
    rw [wipe_set σ i x vs]
    by_cases h : i ∈ vs
    · rw [if_pos h, if_pos (List.mem_cons_of_mem _ h)]; rfl
    · rw [if_neg h]
      by_cases e : i = v
      · subst e
        rw [if_pos List.mem_cons_self, List.set_set]; rfl
      · rw [if_neg (by simp only [List.mem_cons, not_or]; exact ⟨e, h⟩)]
        show ((wipe σ vs).set i x).set v none = ((wipe σ vs).set v none).set i x
        rw [List.set_comm _ _ e]
theorem wipe_in {σ : L2.St} {i : Nat} {x : Option V} {vs : List Nat} (h : i ∈ vs) : wipe (σ.set i x) vs = wipe σ vs := by rw [wipe_set, if_pos h]
theorem wipe_all (σ : L2.St) : ∀ us vs : List Nat, (∀ i ∈ us, i ∈ vs) → wipe (wipe σ us) vs = wipe σ vs
  | [], vs, _ => rfl
  | u :: us, vs, h => by
    show wipe ((wipe σ us).set u none) vs = wipe σ vs
    rw [wipe_in (h u List.mem_cons_self), wipe_all σ us vs fun i hi => h i (List.mem_cons_of_mem _ hi)]
def dwipe (ε : En) : List Nat → En
  | [] => ε
  | v :: vs => (dwipe ε vs).set v .no
section
variable {K : PySem.W.Frag} {bo : Option Bo} {G0 H0 : Hp} {σ : L2.St} {H G : Hp} {ε : En} {n : S}
theorem Rl.wipe (r : Rl K bo G0 H0 σ H G ε n) : ∀ vs : List Nat, Rl K bo G0 H0 (wipe σ vs) H G (dwipe ε vs) n
  | [] => r
  | v :: vs => (r.wipe vs).setNo none v
end

/-! ### targets -/
abbrev DGt := PyData → En → (En → Prop) → Prop
abbrev DGst := List PyData → En → (En → Prop) → Prop
def SG (K : PySem.W.Frag) (g : TG) (dg : DGt) (ts : List Nat) : Prop := ∀ {S : Type} [MSt S] (bo : Option Bo) (G0 H0 : Hp) (σ : L2.St) (H G : Hp) (ε : En) (n : S) (v : V) (d : PyData) (C : En → Prop) (Q : L2.St → Hp → Prop), Rl K bo G0 H0 σ H G ε n → Dp K G v d → dg d ε C →
  (∀ σ' ε', Rl K bo G0 H0 σ' H G ε' n → (∀ vs, (∀ i ∈ ts, i ∈ vs) → wipe σ' vs = wipe σ vs) → C ε' → Q σ' H) → g v σ H Q
def SGs (K : PySem.W.Frag) (g : TGs) (dg : DGst) (ts : List Nat) : Prop := ∀ {S : Type} [MSt S] (bo : Option Bo) (G0 H0 : Hp) (σ : L2.St) (H G : Hp) (ε : En) (n : S) (v : List V) (d : List PyData) (C : En → Prop) (Q : L2.St → Hp → Prop), Rl K bo G0 H0 σ H G ε n → DpAll K G v d → dg d ε C →
  (∀ σ' ε', Rl K bo G0 H0 σ' H G ε' n → (∀ vs, (∀ i ∈ ts, i ∈ vs) → wipe σ' vs = wipe σ vs) → C ε' → Q σ' H) → g v σ H Q
structure DG (K : PySem.W.Frag) (X : Cx) (tg : Expr) (g : TG) (dg : DGt) (ts : List Nat) : Prop where
  pg : PG X tg g
  sg : SG K g dg ts
structure DGs (K : PySem.W.Frag) (X : Cx) (tg : List Expr) (g : TGs) (dg : DGst) (ts : List Nat) : Prop where
  pg : PGs X tg g
  sg : SGs K g dg ts
def dgName (i : Nat) : DGt := fun d ε C => C (ε.set i (.im d))
def dgsNil : DGst
  | [], ε, C => C ε
  | _, _, _ => False
def dgsCons (dg : DGt) (dgs : DGst) : DGst
  | x :: r, ε, C => dg x ε fun ε' => dgs r ε' C
  | [], _, _ => False
def dgTup (m : Nat) (dgs : DGst) : DGt
  | .tuple ds, ε, C => ds.length = m ∧ dgs ds ε C
  | _, _, _ => False
section
variable {X : Cx} {K : PySem.W.Frag} {pos : Pos}
theorem dg_name (i : Nat) {x : Str} (hN : X.N.Nodup) (hi : X.N[i]? = some x) (hx : Loc X.env.scope x) (hf : X.fn x = true ∨ X.env.scope.names.lookup x = some .local := by first | exact .inl rfl | exact .inr rfl | assumption) (hK : X.K = K := by rfl) : DG K X (.Name x pos) (gName i) (dgName i) [i] := by
  subst hK
  exact ⟨pg_name hN hi hx hf, fun bo G0 H0 σ H G ε n v d C Q r h hc k => k _ _ (r.setIm h i) (fun vs h => wipe_in (h i List.mem_cons_self)) hc⟩
theorem dgs_nil (hK : X.K = K := by rfl) : DGs K X [] gNil dgsNil [] := by
  subst hK
  exact ⟨pgs_nil, fun bo G0 H0 σ H G ε n v d C Q r h hc k => by
    cases h with
    | nil => exact ⟨rfl, k σ ε r (fun _ _ => rfl) hc⟩
    | cons _ _ => exact hc.elim⟩
theorem dgs_cons {e : Expr} {es : List Expr} {t : TG} {u : TGs} {dg : DGt} {dgs : DGst} {ts us : List Nat} (h1 : DG K X e t dg ts) (h2 : DGs K X es u dgs us)
    (hs : (assignEach (e :: es) X.env).map (·.2) = assign e X.env :: (assignEach es X.env).map (·.2) := by rfl) (hK : X.K = K := by rfl) : DGs K X (e :: es) (gCons t u) (dgsCons dg dgs) (ts ++ us) := by
  subst hK
  exact ⟨pgs_cons h1.pg h2.pg hs, fun bo G0 H0 σ H G ε n v d C Q r h hc k => by
      cases h with
      | nil => exact hc.elim
      | cons ha hb => exact ⟨_, _, rfl, h1.sg bo G0 H0 σ H G ε n _ _ _ _ r ha hc fun σ1 ε1 r1 w1 c1 => h2.sg bo G0 H0 σ1 H G ε1 n _ _ _ _ r1 hb c1 fun σ2 ε2 r2 w2 c2 =>
          k σ2 ε2 r2 (fun vs hv => (w2 vs fun i hi => hv i (List.mem_append_right _ hi)).trans (w1 vs fun i hi => hv i (List.mem_append_left _ hi))) c2⟩⟩
theorem dg_tup {es : List Expr} {k : Nat} {t : TGs} {dgs : DGst} {ts : List Nat} {n : Nat} (hc : X.calm = true) (h : DGs K X es t dgs ts) (hn : (assignEach es X.env).length = n := by rfl) (hst : (assignEach es X.env).findIdx? (·.1) = none := by rfl) (hK : X.K = K := by rfl) :
    DG K X (.Tuple es k pos) (gTup K n t) (dgTup n dgs) ts := by
  subst hK
  exact ⟨pg_tup hc h.pg hn hst, fun bo G0 H0 σ H G ε m v d C Q r hd hcc kk => by
    cases hd with
    | tup s ha => exact ⟨_, _, rfl, sqt_mono r.gh s, (dpa_len ha).trans hcc.1, h.sg bo G0 H0 σ H G ε m _ _ _ _ r ha hcc.2 kk⟩
    | _ => exact hcc.elim⟩
end

/-! ### what is walked -/
abbrev DIt (S : Type) := En → S → (List PyData → S → Prop) → Prop
def Wlk (K : PySem.W.Frag) (J : It) (G : Hp) (ds : List PyData) : Prop := ∀ (i : Nat) (G1 H : Hp), Same G G1 → Same G1 H →
  (∀ d, ds[i]? = some d → J.go i H ∧ ∀ x H', J.yld i H x H' → ∃ G2, Grow none G1 H G2 H' ∧ Dp K G2 x d) ∧ (ds.length ≤ i → J.stop i H)
def SI (K : PySem.W.Frag) (wi : TI) (di : DIt S) : Prop := ∀ (bo : Option Bo) (G0 H0 : Hp) (σ : L2.St) (H G : Hp) (ε : En) (n : S) (P : List PyData → S → Prop) (R : It → Hp → Prop), Rl K bo G0 H0 σ H G ε n → di ε n P →
  (∀ J G' H' ds n', Grow bo G H G' H' → BoxO K G' H' bo n' → Wlk K J G' ds → P ds n' → R J H') → wi σ H R
structure DI (K : PySem.W.Frag) (X : Cx) (tg iter : Expr) (wi : TI) (di : DIt S) : Prop where
  pi : PI X tg iter wi
  si : SI K wi di
theorem dpa_get {K : PySem.W.Frag} {G : Hp} : ∀ {vs : List V} {ds : List PyData} {i : Nat} {d : PyData}, DpAll K G vs ds → ds[i]? = some d → ∃ v, vs[i]? = some v ∧ Dp K G v d
  | _, _, _, _, .nil, e => by simp at e
  | _, _, 0, _, .cons h _, e => by
    simp at e
    subst e
    exact ⟨_, rfl, h⟩
  | _, _, i + 1, d, .cons _ t, e => by
    obtain ⟨v, h1, h2⟩ := dpa_get (i := i) (d := d) t (by simpa using e)
    exact ⟨v, by simpa using h1, h2⟩
omit [MSt S] in
def dItL (de : DEt S) : DIt S := fun ε n P => de ε n fun d n1 => match d with | .list ds => P ds n1 | _ => False
omit [MSt S] in
def dItT (de : DEt S) : DIt S := fun ε n P => de ε n fun d n1 => match d with | .tuple ds => P ds n1 | _ => False
section
variable {X : Cx} {K : PySem.W.Frag} {tg e a : Expr} {te ta : TE} {de da : DEt S} {p pos : Pos}
theorem di_list (h : DE K X e te de) (hK : X.K = K := by rfl) : DI K X tg e (iList K te) (dItL de) := by
  subst hK
  exact ⟨pi_list h.pe, fun bo G0 H0 σ H G ε n P R r hp k =>
    h.se bo G0 H0 σ H G ε n _ _ r hp fun v G1 H1 d n1 g1 b1 p1 h1 => by
      cases p1 with
      | lst s ha =>
        refine ⟨_, rfl, ⟨_, .inl (.inl (g1.gh _ _ s))⟩, k _ G1 H1 _ n1 g1 b1 (fun i G2 H2 s1 s2 => ⟨fun d hd => ?_, fun hl => ?_⟩) h1⟩
        · obtain ⟨x, hx, hdp⟩ := dpa_get ha hd
          have sq : SqL X.K H2 _ _ := .inl (.inl (s2 _ _ (s1 _ _ s)))
          refine ⟨⟨_, x, sq, hx⟩, fun y H' hy => ?_⟩
          obtain ⟨rfl, hy⟩ := hy
          have := hy _ sq
          rw [hx] at this
          cases this
          exact ⟨G2, Grow.refl s2, dp_mono s1 hdp⟩
        · exact ⟨_, .inl (.inl (s2 _ _ (s1 _ _ s))), by rw [dpa_len ha]; exact hl⟩
      | _ => exact h1.elim⟩
theorem di_tup (h : DE K X e te de) (hK : X.K = K := by rfl) : DI K X tg e (iTup K te) (dItT de) := by
  subst hK
  exact ⟨pi_tup h.pe, fun bo G0 H0 σ H G ε n P R r hp k =>
    h.se bo G0 H0 σ H G ε n _ _ r hp fun v G1 H1 d n1 g1 b1 p1 h1 => by
      cases p1 with
      | tup s ha =>
        refine ⟨_, rfl, ⟨_, sqt_mono g1.gh s⟩, k _ G1 H1 _ n1 g1 b1 (fun i G2 H2 s1 s2 => ⟨fun d hd => ?_, fun hl => ?_⟩) h1⟩
        · obtain ⟨x, hx, hdp⟩ := dpa_get ha hd
          have sq := sqt_mono s2 (sqt_mono s1 s)
          refine ⟨⟨_, x, sq, hx⟩, fun y H' hy => ?_⟩
          obtain ⟨rfl, hy⟩ := hy
          have := hy _ sq
          rw [hx] at this
          cases this
          exact ⟨G2, Grow.refl s2, dp_mono s1 hdp⟩
        · exact ⟨_, sqt_mono s2 (sqt_mono s1 s), by rw [dpa_len ha]; exact hl⟩
      | _ => exact h1.elim⟩
def rgD (m : Nat) : List PyData := (List.range m).map fun (i : Nat) => PyData.int (i : Int)
omit [MSt S] in
def dRng (de : DEt S) : DIt S := fun ε n P => de ε n fun d n1 => match d with | .int j => -1000000 ≤ j ∧ j ≤ 1000000 ∧ P (rgD j.toNat) n1 | _ => False
theorem di_range (hg : Gl X "range") (hm : X.mg "range" = none) (h : DE K X a ta da) (hs : starEach [a] X.env = [(false, eval a X.env)] := by rfl) (hs1 : starEach (a :: []) X.env = (false, eval a X.env) :: starEach [] X.env := by rfl) (hK : X.K = K := by rfl) : DI K X tg (.Call (.Name "range" p) [a] [] pos) (iRng1 (tCons ta tNil)) (dRng da) := by
  subst hK
  exact ⟨pi_range1 hg hm (pa_cons h.pe pa_nil hs1) hs, fun bo G0 H0 σ H G ε n P R r hp k =>
    h.se bo G0 H0 σ H G ε n _ _ r hp fun v G1 H1 d n1 g1 b1 p1 h1 => by
      cases p1 with
      | int j =>
        obtain ⟨q1, q2, h1⟩ := h1
        refine ⟨j, rfl, Int.le_trans (by decide) q1, Int.lt_of_le_of_lt q2 (by decide), k _ G1 H1 _ n1 g1 b1 (fun i G2 H2 s1 s2 => ⟨fun d hd => ?_, fun hl => ?_⟩) h1⟩
        · have hi : i < j.toNat := by
            have := (List.getElem?_eq_some_iff.mp hd).1
            simpa [rgD] using this
          have hd' : d = .int (i : Int) := by
            rw [rgD, List.getElem?_map, List.getElem?_range hi] at hd
            exact (Option.some.inj hd).symm
          refine ⟨hi, fun y H' hy => ?_⟩
          obtain ⟨rfl, rfl⟩ := hy
          subst hd'
          rw [Int.zero_add]
          exact ⟨G2, Grow.refl s2, .int _⟩
        · have : j.toNat ≤ i := by simpa [rgD] using hl
          exact this
      | _ => exact h1.elim⟩
end

/-! ### comprehensions -/
omit [MSt S] in
def lcRun (dg : DGt) (dt : DTt S) (de : DEt S) (ε : En) (P : List PyData → S → Prop) : List PyData → List PyData → S → Prop
  | [], acc, n => P acc n
  | x :: r, acc, n => dg x ε fun ε' => dt ε' n fun b n1 => if b = true then de ε' n1 fun y n2 => lcRun dg dt de ε P r (acc ++ [y]) n2 else lcRun dg dt de ε P r acc n1
omit [MSt S] in
def dLc (di : DIt S) (dg : DGt) (dt : DTt S) (de : DEt S) (vs : List Nat) : DFt S := fun ε n P => di ε n fun items n1 => items.length ≤ 50000 ∧ lcRun dg dt de (dwipe ε vs) P items [] n1
omit [MSt S] in
def dYes : DTt S := fun _ n P => P true n
theorem st_yes {K : PySem.W.Frag} : STt K tYes (dYes (S := S)) := fun bo G0 H0 σ H G ε n P Q r hp k => k true G H n (Grow.refl r.gh) r.bx hp
structure DTs (K : PySem.W.Frag) (X : Cx) (ifs : List Expr) (tt : TT) (dt : DTt S) : Prop where
  pt : PTs X ifs tt
  st : STt K tt dt
theorem dts_nil {X : Cx} {K : PySem.W.Frag} (hK : X.K = K := by rfl) : DTs K X [] tYes (dYes (S := S)) := by
  subst hK
  exact ⟨pts_nil, st_yes⟩
theorem dts_one {X : Cx} {K : PySem.W.Frag} {c : Expr} {tt : TT} {dt : DTt S} (h : DT K X c tt dt) (hK : X.K = K := by rfl) : DTs K X [c] tt dt := by
  subst hK
  exact ⟨pts_one h.pt, h.se⟩
theorem dpa_app {K : PySem.W.Frag} {G : Hp} {v : V} {d : PyData} (h : Dp K G v d) : ∀ {vs : List V} {ds : List PyData}, DpAll K G vs ds → DpAll K G (vs ++ [v]) (ds ++ [d])
  | _, _, .nil => .cons h .nil
  | _, _, .cons a t => .cons a (dpa_app h t)
theorem sf_lc {K : PySem.W.Frag} {wi : TI} {g : TG} {tt : TT} {te : TE} {di : DIt S} {dg : DGt} {dt : DTt S} {de : DEt S} {vs ts : List Nat} (hi : SI K wi di) (hg : SG K g dg ts) (ht : STt K tt dt) (he : SE K te de) (hts : ∀ i ∈ ts, i ∈ vs) :
    SF K (tLc wi g tt te vs) (dLc di dg dt de vs) := fun bo G0 H0 σ H G ε n P Q R hp k =>
  hi bo G0 H0 σ H G ε n _ _ R hp fun J G1 H1 items n1 g1 b1 w1 h1 D hD => by
    obtain ⟨hlen, h1⟩ := h1
    have R1 := R.grow g1 b1
    have hGD : G1 D = none := g1.gh.free hD
    have hHD : H D = none := g1.back b1 hD
    refine ⟨fun i m H' => ∃ G' n' ws acc, Grow bo G1 H1 G' H' ∧ BoxO K G' H' bo n' ∧ G' D = none ∧ H' D = some (.lst ws) ∧ DpAll K G' ws acc ∧ acc.length ≤ i ∧ i + m = items.length ∧ lcRun dg dt de (dwipe ε vs) P (items.drop i) acc n', ?_, fun i m H' hW => ?_⟩
    · exact ⟨items.length, G1, n1, [], [], Grow.out g1.gh hD, b1.grow (Grow.out (G := G1) g1.gh hD), hGD, upd_same, .nil, Nat.le_refl _, Nat.zero_add _, h1⟩
    · obtain ⟨G', n', ws, acc, gg, bb, hG', hH', ha, hal, him, hrun⟩ := hW
      have W := w1 i G' H' gg.gg gg.gh
      have R' := (R1.grow gg bb).wipe vs
      by_cases hlt : i < items.length
      · obtain ⟨hgo, hy⟩ := W.1 items[i] (List.getElem?_eq_getElem hlt)
        rw [List.drop_eq_getElem_cons hlt] at hrun
        refine .inr ⟨hgo, fun H2 => ∃ G2 n2 ws acc, Grow bo G1 H1 G2 H2 ∧ BoxO K G2 H2 bo n2 ∧ G2 D = none ∧ H2 D = some (.lst ws) ∧ DpAll K G2 ws acc ∧ acc.length ≤ i + 1 ∧ lcRun dg dt de (dwipe ε vs) P (items.drop (i + 1)) acc n2, fun H2 h2 => ?_, fun x H2 hx => ?_⟩
        · obtain ⟨G2, n2, ws2, acc2, q1, q2, q3, q4, q5, q6, q7⟩ := h2
          exact ⟨m - 1, by omega, G2, n2, ws2, acc2, q1, q2, q3, q4, q5, q6, by omega, q7⟩
        · obtain ⟨G2, g2, hdp⟩ := hy x H2 hx
          have R2 := R'.grow g2.any (bb.grow g2)
          have hD2 : H2 D = some (.lst ws) := g2.kp D _ (fun z => nomatch z) hH'
          have hGD2 : G2 D = none := g2.fr D (by rw [hH']; exact fun z => nomatch z) hG'
          have gg2 := gg.trans bb (g2.any (bo := bo))
          refine hg bo G0 H0 (wipe σ vs) H2 G2 _ _ x items[i] _ _ R2 hdp hrun fun σ3 ε3 R3 hw hrun3 => ⟨?_, ?_⟩
          · rw [hw vs hts, wipe_all σ vs vs fun _ h => h]
          · refine ht bo G0 H0 σ3 H2 G2 ε3 _ _ _ R3 hrun3 fun b G4 H4 n4 g4 b4 hrun4 => ?_
            have hD4 : H4 D = some (.lst ws) := g4.kp D _ (fun z => (b1.some_ne z) hD) hD2
            have hGD4 : G4 D = none := g4.fr D (by rw [hD2]; exact fun z => nomatch z) hGD2
            have gg4 := gg2.trans (bb.grow g2) g4
            cases b with
            | false => exact ⟨G4, n4, ws, acc, gg4, b4, hGD4, hD4, dpa_mono (g2.gg.trans g4.gg) ha, Nat.le_succ_of_le hal, hrun4⟩
            | true =>
              refine he bo G0 H0 σ3 H4 G4 ε3 n4 _ _ (R3.grow g4 b4) hrun4 fun y G5 H5 d n5 g5 b5 hdy hrun5 => ?_
              have hD5 : H5 D = some (.lst ws) := g5.kp D _ (fun z => (b1.some_ne z) hD) hD4
              have hGD5 : G5 D = none := g5.fr D (by rw [hD4]; exact fun z => nomatch z) hGD4
              have hda := dpa_mono ((g2.gg.trans g4.gg).trans g5.gg) ha
              refine ⟨ws, hD5, szl (by rw [dpa_len ha]; omega), G5, n5, ws ++ [y], acc ++ [d], (gg4.trans b4 g5).mutNew hD hGD5, ?_, hGD5, upd_same, dpa_app hdy hda, by rw [List.length_append]; simp; omega, hrun5⟩
              exact b5.keep (Same.refl _) fun c hc u q => by
                rw [upd_ne (fun z => by
                  subst z
                  exact (b1.some_ne hc) hD)]
                exact q
      · refine .inl ⟨W.2 (by omega), ?_⟩
        rw [List.drop_eq_nil_of_le (by omega)] at hrun
        exact k D ws G' H' acc n' (g1.trans b1 gg) bb hHD hG' hH' ha hrun
theorem df_lc {X : Cx} {K : PySem.W.Frag} {elt tg iter : Expr} {ifs : List Expr} {scope : Scope} {own : List (Str × Nat)} {pos : Pos} {wi : TI} {g : TG} {tt : TT} {te : TE} {di : DIt S} {dg : DGt} {dt : DTt S} {de : DEt S} {ts : List Nat} (hc : X.calm = true) (hN : X.N.Nodup) (hi : DI K X tg iter wi di) (ok : BlkOk X.N X.env.scope scope own)
    (hg : ∀ (s : Shared) (H : Hp) (C : Addr) (cl : List (Str × Addr)) (fp : List Addr), DG K (X.blk s H scope (compEnvC scope cl C X.env) fp) tg g dg ts) (ht : ∀ (s : Shared) (H : Hp) (C : Addr) (cl : List (Str × Addr)) (fp : List Addr), DTs K (X.blk s H scope (compEnvC scope cl C X.env) fp) ifs tt dt)
    (he : ∀ (s : Shared) (H : Hp) (C : Addr) (cl : List (Str × Addr)) (fp : List Addr), DE K (X.blk s H scope (compEnvC scope cl C X.env) fp) elt te de) (hts : ∀ i ∈ ts, i ∈ own.map (·.2) := by decide) (hs : ∀ x, foldedSetIterable iter X.env x = pure x := by intro _; rfl) (hK : X.K = K := by rfl) :
    DF K X (.ListComp elt [⟨tg, iter, ifs, 0⟩] scope pos) (tLc wi g tt te (own.map (·.2))) (dLc di dg dt de (own.map (·.2))) := by
  subst hK
  exact ⟨pe_lc hc hN hi.pi ok (fun s H C cl fp => (hg s H C cl fp).pg) (fun s H C cl fp => (ht s H C cl fp).pt) (fun s H C cl fp => (he s H C cl fp).pe) hs,
     sf_lc hi.si (hg X.s_0 X.H_0 0 [] []).sg (ht X.s_0 X.H_0 0 [] []).st (he X.s_0 X.H_0 0 [] []).se hts⟩
end DL

set_option Elab.async false
set_option linter.all false
set_option autoImplicit false
set_option maxRecDepth 100000
namespace DL
open PySem PySem.Spec PyProof.Rows L2
variable {S : Type} [MSt S]

/-! ### statements -/
structure DEnds (S : Type) where
  nx : En → S → Prop
  rt : PyData → S → Prop
  bk : En → S → Prop := fun _ _ => False
  ct : En → S → Prop := fun _ _ => False
  rf : Own → S → Prop := fun _ _ => False
abbrev DSt (S : Type) := DEnds S → En → S → Prop
structure Lk (K : PySem.W.Frag) (bo : Option Bo) (G0 H0 : Hp) (D : Ends) (DD : DEnds S) : Prop where
  nx : ∀ σ H G ε n, Rl K bo G0 H0 σ H G ε n → DD.nx ε n → D.nx σ H
  rt : ∀ v G H d n, Grow bo G0 H0 G H → BoxO K G H bo n → Dp K G v d → DD.rt d n → D.rt v H
  bk : ∀ σ H G ε n, Rl K bo G0 H0 σ H G ε n → DD.bk ε n → D.bk σ H
  ct : ∀ σ H G ε n, Rl K bo G0 H0 σ H G ε n → DD.ct ε n → D.ct σ H
  rf : ∀ v G H o f n, Grow bo G0 H0 G H → BoxO K G H bo n → OwR K G H v o f → (∀ a ∈ f, H0 a = none ∧ G a = none) → DD.rf o n → D.rt v H
def SS (K : PySem.W.Frag) (ts : TS) (ds : DSt S) : Prop := ∀ (bo : Option Bo) (G0 H0 : Hp) (σ : L2.St) (H G : Hp) (ε : En) (n : S) (D : Ends) (DD : DEnds S), Rl K bo G0 H0 σ H G ε n → Lk K bo G0 H0 D DD → ds DD ε n → ts D σ H
structure DS (K : PySem.W.Frag) (X : Cx) (st : Stmt) (ts : TS) (ds : DSt S) : Prop where
  ps : PS X st ts
  ss : SS K ts ds
structure DSs (K : PySem.W.Frag) (X : Cx) (st : List Stmt) (ts : TS) (ds : DSt S) : Prop where
  ps : PSs X st ts
  ss : SS K ts ds
section
variable {X : Cx} {K : PySem.W.Frag} {st : Stmt} {rest : List Stmt} {t u : TS} {d1 d2 : DSt S} {e tg : Expr} {te : TE} {de : DEt S} {pos : Pos}
omit [MSt S] in
def dNext : DSt S := fun D ε n => D.nx ε n
omit [MSt S] in
def dSeq (d1 d2 : DSt S) : DSt S := fun D ε n => d1 { D with nx := d2 D } ε n
theorem dss_nil (hK : X.K = K := by rfl) : DSs K X [] tNext (dNext (S := S)) := by
  subst hK
  exact ⟨pss_nil, fun bo G0 H0 σ H G ε n D DD r l h => l.nx σ H G ε n r h⟩
theorem ss_seq (h1 : SS K t d1) (h2 : SS K u d2) : SS K (tSeq t u) (dSeq d1 d2) := fun bo G0 H0 σ H G ε n D DD r l h =>
  h1 bo G0 H0 σ H G ε n { D with nx := u D } { DD with nx := d2 DD } r ⟨fun σ' H' G' ε' n' r' q => h2 bo G0 H0 σ' H' G' ε' n' D DD r' l q, l.rt, l.bk, l.ct, l.rf⟩ h
theorem dss_cons (h1 : DS K X st t d1) (h2 : DSs K X rest u d2) (hK : X.K = K := by rfl) : DSs K X (st :: rest) (tSeq t u) (dSeq d1 d2) := by
  subst hK
  exact ⟨pss_cons h1.ps h2.ps, ss_seq h1.ss h2.ss⟩
theorem dss_one (h : DS K X st t d1) (hK : X.K = K := by rfl) : DSs K X [st] t d1 := by
  subst hK
  exact ⟨pss_one h.ps, h.ss⟩
omit [MSt S] in
/-- the list in slot i stands still from here on -/
def dFrz (i : Nat) (d1 : DSt S) : DSt S := fun D ε n => ∃ ds, ε[i]? = some (.ow ds) ∧ d1 D (ε.set i (.im (.list ds))) n
theorem dss_frz (i : Nat) {sts : List Stmt} (h : DSs K X sts t d1) (hK : X.K = K := by rfl) : DSs K X sts t (dFrz i d1) := by
  subst hK
  exact ⟨h.ps, fun bo G0 H0 σ H G ε n D DD r l q => by
    obtain ⟨ds, e1, q⟩ := q
    obtain ⟨G', r'⟩ := r.freeze e1
    exact h.ss bo G0 H0 σ H G' _ n D DD r' l q⟩
omit [MSt S] in
def dPass : DSt S := fun D ε n => D.nx ε n
omit [MSt S] in
def dBrk : DSt S := fun D ε n => D.bk ε n
omit [MSt S] in
def dCnt : DSt S := fun D ε n => D.ct ε n
theorem ds_pass (hK : X.K = K := by rfl) : DS K X (.Pass pos) tNext (dPass (S := S)) := by
  subst hK
  exact ⟨ps_pass, fun bo G0 H0 σ H G ε n D DD r l h => l.nx σ H G ε n r h⟩
theorem ds_break (hK : X.K = K := by rfl) : DS K X (.Break pos) tBreak (dBrk (S := S)) := by
  subst hK
  exact ⟨ps_break, fun bo G0 H0 σ H G ε n D DD r l h => l.bk σ H G ε n r h⟩
theorem ds_continue (hK : X.K = K := by rfl) : DS K X (.Continue pos) tCont (dCnt (S := S)) := by
  subst hK
  exact ⟨ps_continue, fun bo G0 H0 σ H G ε n D DD r l h => l.ct σ H G ε n r h⟩
omit [MSt S] in
def dRet (de : DEt S) : DSt S := fun D ε n => de ε n D.rt
theorem ds_ret (h : DE K X e te de) (hK : X.K = K := by rfl) : DS K X (.Return (some e) pos) (tRet te) (dRet de) := by
  subst hK
  exact ⟨ps_ret h.pe, fun bo G0 H0 σ H G ε n D DD r l q =>
    h.se bo G0 H0 σ H G ε n _ _ r q fun v G1 H1 d n1 g1 b1 p1 h1 => l.rt v G1 H1 d n1 (r.gr.trans r.bx g1) b1 p1 h1⟩
omit [MSt S] in
def dRetN : DSt S := fun D _ n => D.rt .none n
theorem ds_retN (hK : X.K = K := by rfl) : DS K X (.Return none pos) tRetN (dRetN (S := S)) := by
  subst hK
  exact ⟨ps_retN, fun bo G0 H0 σ H G ε n D DD r l q => l.rt .non G H .none n r.gr r.bx .non q⟩
omit [MSt S] in
omit [MSt S] in
/-- a new list is told -/
def dRetF (df : DFt S) : DSt S := fun D ε n => df ε n fun ds => D.rf (.lst (ds.map .dat))
theorem ds_retF {df : DFt S} (h : DF K X e te df) (hK : X.K = K := by rfl) : DS K X (.Return (some e) pos) (tRet te) (dRetF df) := by
  subst hK
  exact ⟨ps_ret h.pe, fun bo G0 H0 σ H G ε n D DD r l q =>
    h.se bo G0 H0 σ H G ε n _ _ r q fun p vs G1 H1 ds n1 g1 b1 e1 e2 e3 e4 h1 => l.rf (.ref p) G1 H1 _ [p] n1 (r.gr.trans r.bx g1) b1 (.lst e3 (OwsR.dat e4) (fun z => nomatch z)) (fun a ha => by
      rw [List.mem_singleton.mp ha]
      exact ⟨r.gr.back r.bx e1, e2⟩) h1⟩
omit [MSt S] in
/-- a thing of one's own is told -/
def dRetO (i : Nat) : DSt S := fun D ε n => ∃ s o, ε[i]? = some s ∧ s.own = some o ∧ D.rf o n
theorem ds_retO (i : Nat) {x : Str} {p1 : Pos} (hN : X.N[i]? = some x := by rfl) (hv : Vis X.env.scope x := by first | exact Or.inl rfl | exact Or.inr (Or.inl rfl) | exact Or.inr (Or.inr rfl)) (hd : (x == ("__debug__" : Str)) = false := by decide) (hcd : (x == ("__classdict__" : Str)) = false := by decide) (hK : X.K = K := by rfl) : DS K X (.Return (some (.Name x p1)) pos) (tRet (tVar i)) (dRetO (S := S) i) := by
  subst hK
  exact ⟨ps_ret (pe_var hN hv hd hcd), fun bo G0 H0 σ H G ε n D DD r l q => by
    obtain ⟨s, o, e, ho, q⟩ := q
    obtain ⟨v, f, hv, hr, hf, _⟩ := r.putOb e ho
    exact ⟨v, hv, l.rf v G H o f n r.gr r.bx hr (fun a ha => ⟨(hf a ha).2.2, (hf a ha).1⟩) q⟩⟩
omit [MSt S] in
def dAsg (de : DEt S) (dg : DGt) : DSt S := fun D ε n => de ε n fun d n1 => dg d ε fun ε' => D.nx ε' n1
theorem ss_asg {g : TG} {dg : DGt} {ts : List Nat} (h : SE K te de) (hg : SG K g dg ts) : SS K (tAsg te g) (dAsg de dg) := fun bo G0 H0 σ H G ε n D DD r l q =>
  h bo G0 H0 σ H G ε n _ _ r q fun v G1 H1 d n1 g1 b1 p1 h1 => hg bo G0 H0 σ H1 G1 ε n1 v d _ _ (r.grow g1 b1) p1 h1 fun σ' ε' r' _ c' => l.nx σ' H1 G1 ε' n1 r' c'
theorem ds_asg {g : TG} {dg : DGt} {ts : List Nat} (h : DE K X e te de) (hg : DG K X tg g dg ts) (hs : swapsWithSole [tg] e pos.line X.env = pure false := by rfl) (hw : swappedStores [tg] e X.env = pure none := by rfl)
    (h1 : (assignEach [tg] X.env).map (·.2) = [assign tg X.env] := by rfl) (hK : X.K = K := by rfl) : DS K X (.Assign [tg] e pos) (tAsg te g) (dAsg de dg) := by
  subst hK
  exact ⟨ps_asg h.pe hg.pg hs hw h1, ss_asg h.se hg.sg⟩
theorem sg_name (i : Nat) : SG K (gName i) (dgName i) [i] := fun bo G0 H0 σ H G ε n v d C Q r h hc k => k _ _ (r.setIm h i) (fun vs h => wipe_in (h i List.mem_cons_self)) hc
theorem ds_set (i : Nat) {x : Str} {pos' : Pos} (hN : X.N.Nodup) (hi : X.N[i]? = some x) (hx : Loc X.env.scope x) (h : DE K X e te de) (hs : swapsWith e (some (.Name x pos')) pos.line X.env = pure false := by rfl) (hf : X.fn x = true ∨ X.env.scope.names.lookup x = some .local := by first | exact .inl rfl | exact .inr rfl | assumption) (hK : X.K = K := by rfl) :
    DS K X (.Assign [.Name x pos'] e pos) (tAsg te (gName i)) (dAsg de (dgName i)) := by
  subst hK
  exact ⟨ps_set hN hi hx h.pe hs hf, ss_asg h.se (sg_name i)⟩
omit [MSt S] in
/-- a slot gets a list of its own -/
def dAsgO (i : Nat) (df : DFt S) : DSt S := fun D ε n => df ε n fun ds n1 => D.nx (ε.set i (.ow ds)) n1
theorem ss_asgO (i : Nat) {df : DFt S} (h : SF K te df) : SS K (tAsg te (gName i)) (dAsgO i df) := fun bo G0 H0 σ H G ε n D DD r l q =>
  h bo G0 H0 σ H G ε n _ _ r q fun p vs G1 H1 ds n1 g1 b1 hp hg hH hd h1 => by
    exact l.nx _ H1 G1 _ n1 (r.setOw g1 b1 hp hg hH hd i) h1
theorem ds_setO (i : Nat) {x : Str} {df : DFt S} {pos' : Pos} (hN : X.N.Nodup) (hi : X.N[i]? = some x) (hx : Loc X.env.scope x) (h : DF K X e te df) (hs : swapsWith e (some (.Name x pos')) pos.line X.env = pure false := by rfl) (hf : X.fn x = true ∨ X.env.scope.names.lookup x = some .local := by first | exact .inl rfl | exact .inr rfl | assumption) (hK : X.K = K := by rfl) :
    DS K X (.Assign [.Name x pos'] e pos) (tAsg te (gName i)) (dAsgO i df) := by
  subst hK
  exact ⟨ps_set hN hi hx h.pe hs hf, ss_asgO i h.se⟩
section
variable {i : Nat} {y : Str} {py : Pos} {elt iter : Expr} {ifs : List Expr} {scope : Scope} {own : List (Str × Nat)} {spos : Pos} {wi : TI} {g : TG} {tt : TT} {di : DIt S} {dg : DGt} {dt : DTt S} {ts : List Nat}
/-- name = [..] on one line, the name a local: data, or a list of its own -/
theorem ds_setLc (i : Nat) (hc : X.calm = true) (hN : X.N.Nodup) (hy : X.N[i]? = some y) (hyl : X.env.scope.names.lookup y = some .local)
    (hsw : swapsWith (.ListComp elt [⟨tg, iter, ifs, 0⟩] scope pos) (some (.Name y py)) spos.line X.env = pure true) (hi : DI K X tg iter wi di) (ok : BlkOk X.N X.env.scope scope own)
    (hg : ∀ (s : Shared) (H : Hp) (C : Addr) (cl : List (Str × Addr)) (fp : List Addr), DG K (X.blk s H scope (compEnvC scope cl C X.env) fp) tg g dg ts) (ht : ∀ (s : Shared) (H : Hp) (C : Addr) (cl : List (Str × Addr)) (fp : List Addr), DTs K (X.blk s H scope (compEnvC scope cl C X.env) fp) ifs tt dt)
    (he : ∀ (s : Shared) (H : Hp) (C : Addr) (cl : List (Str × Addr)) (fp : List Addr), DE K (X.blk s H scope (compEnvC scope cl C X.env) fp) elt te de) (hts : ∀ i ∈ ts, i ∈ own.map (·.2) := by decide) (hs : ∀ x, foldedSetIterable iter X.env x = pure x := by intro _; rfl) (hK : X.K = K := by rfl) :
    DS K X (.Assign [.Name y py] (.ListComp elt [⟨tg, iter, ifs, 0⟩] scope pos) spos) (tAsg (tLc wi g tt te (own.map (·.2))) (gName i)) (dAsg (dFz (dLc di dg dt de (own.map (·.2)))) (dgName i)) := by
  subst hK
  exact ⟨ps_setLc hc hN hy hyl hsw hi.pi ok (fun s H C cl fp => (hg s H C cl fp).pg) (fun s H C cl fp => (ht s H C cl fp).pt) (fun s H C cl fp => (he s H C cl fp).pe) hs,
     ss_asg (df_de (X := X) (df_lc (pos := pos) hc hN hi ok hg ht he hts hs)).se (sg_name i)⟩
end
omit [MSt S] in
def dDrop (de : DEt S) : DSt S := fun D ε n => de ε n fun _ n1 => D.nx ε n1
theorem ds_expr (h : DE K X e te de) (hs : swapsWith e none pos.line X.env = pure false := by rfl) (hK : X.K = K := by rfl) : DS K X (.Expr e pos) (tDrop te) (dDrop de) := by
  subst hK
  exact ⟨ps_expr h.pe hs, fun bo G0 H0 σ H G ε n D DD r l q =>
    h.se bo G0 H0 σ H G ε n _ _ r q fun v G1 H1 d n1 g1 b1 p1 h1 => l.nx σ H1 G1 ε n1 (r.grow g1 b1) h1⟩
omit [MSt S] in
def dIfS (dt : DTt S) (d1 d2 : DSt S) : DSt S := fun D ε n => dt ε n fun b n1 => if b = true then d1 D ε n1 else d2 D ε n1
theorem ds_if {c : Expr} {a b : List Stmt} {tc : TT} {dt : DTt S} (hc : DT K X c tc dt) (ha : DSs K X a t d1) (hb : DSs K X b u d2) (hK : X.K = K := by rfl) : DS K X (.If c a b pos) (tIfS tc t u) (dIfS dt d1 d2) := by
  subst hK
  exact ⟨ps_if hc.pt ha.ps hb.ps, fun bo G0 H0 σ H G ε n D DD r l q =>
    hc.se bo G0 H0 σ H G ε n _ _ r q fun z G1 H1 n1 g1 b1 h1 => by
      cases z with
      | true => exact ha.ss bo G0 H0 σ H1 G1 ε n1 D DD (r.grow g1 b1) l h1
      | false => exact hb.ss bo G0 H0 σ H1 G1 ε n1 D DD (r.grow g1 b1) l h1⟩
omit [MSt S] in
/-- a, b = x, y -/
def dPar (i j : Nat) (da : DAt S) : DSt S := fun D ε n => da ε n fun as n1 => match as with | [.im x, .im y] => D.nx ((ε.set i (.im x)).set j (.im y)) n1 | _ => False
theorem ds_par {i j : Nat} {x y : Str} {a b : Expr} {ta : TA} {da : DAt S} {px py pt : Pos} {kt k2 pt2} (hc : X.calm = true) (hN : X.N.Nodup) (hi : X.N[i]? = some x) (hj : X.N[j]? = some y) (hij : i ≠ j)
    (hx : X.env.scope.names.lookup x = some .local) (hy : X.env.scope.names.lookup y = some .local) (ha : DA K X [a, b] ta da)
    (hw : swappedStores [.Tuple [.Name x px, .Name y py] kt pt] (.Tuple [a, b] k2 pt2) X.env = pure (some [x, y]))
    (hs : swapsWithSole [.Tuple [.Name x px, .Name y py] kt pt] (.Tuple [a, b] k2 pt2) pos.line X.env = pure false := by rfl) (hK : X.K = K := by rfl) :
    DS K X (.Assign [.Tuple [.Name x px, .Name y py] kt pt] (.Tuple [a, b] k2 pt2) pos) (tPar i j ta) (dPar i j da) := by
  subst hK
  exact ⟨ps_par hc hN hi hj hij hx hy ha.pa hw hs, fun bo G0 H0 σ H G ε n D DD r l q =>
    ha.se bo G0 H0 σ H G ε n _ _ r q fun vs G1 H1 as n1 g1 b1 p1 h1 => by
      cases p1 with
      | nil => exact h1.elim
      | @cons v1 vr a1 ar p1 p2 =>
        cases p2 with
        | nil => cases a1 <;> exact h1.elim
        | @cons v2 vr2 a2 ar2 p2 p3 =>
          cases p3 with
          | nil =>
            cases a1 with
            | im d1 => cases a2 with
              | im d2 => exact ⟨v1, v2, rfl, l.nx _ H1 G1 _ n1 (((r.grow g1 b1).setIm p1 i).setIm p2 j) h1⟩
              | bx => exact h1.elim
              | rd _ => exact h1.elim
            | bx => exact h1.elim
            | rd _ => exact h1.elim
          | cons _ _ => cases a1 <;> cases a2 <;> exact h1.elim⟩
  
/-! loops -/
end
section
variable {K : PySem.W.Frag} {bo : Option Bo} {G0 H0 G1 H1 G H : Hp} {σ : L2.St} {ε : En} {n : S} {D : Ends} {DD : DEnds S}
omit [MSt S] in
theorem Grow.re (a : Grow bo G0 H0 G1 H1) (b : Grow bo G1 H0 G H) : Grow bo G0 H0 G H := ⟨a.gg.trans b.gg, b.gh, fun c h1 h2 => b.fr c h1 (a.fr c h1 h2), b.kp⟩
theorem Rl.base (r : Rl K bo G0 H0 σ H G ε n) : Rl K bo G H0 σ H G ε n := ⟨⟨Same.refl G, r.gr.gh, fun _ _ h => h, r.gr.kp⟩, r.bx, r.gb, r.ln, r.im, r.bs, r.rd, r.own⟩
theorem Rl.unbase (a : Grow bo G0 H0 G1 H1) (r : Rl K bo G1 H0 σ H G ε n) : Rl K bo G0 H0 σ H G ε n := ⟨a.re r.gr, r.bx, r.gb, r.ln, r.im, r.bs, r.rd, r.own⟩
theorem Lk.base (a : Grow bo G0 H0 G1 H1) (l : Lk K bo G0 H0 D DD) : Lk K bo G1 H0 D DD :=
  ⟨fun σ H G ε n r => l.nx σ H G ε n (r.unbase a), fun v G H d n g => l.rt v G H d n (a.re g), fun σ H G ε n r => l.bk σ H G ε n (r.unbase a), fun σ H G ε n r => l.ct σ H G ε n (r.unbase a), fun v G H o f n g => l.rf v G H o f n (a.re g)⟩
end
section
variable {X : Cx} {K : PySem.W.Frag} {st : Stmt} {rest : List Stmt} {t u : TS} {d1 d2 : DSt S} {e tg : Expr} {te : TE} {de : DEt S} {pos : Pos}
omit [MSt S] in
def forRun (dg : DGt) (db : DSt S) (D : DEnds S) : List PyData → En → S → Prop
  | [], ε, n => D.nx ε n
  | x :: r, ε, n => dg x ε fun ε' => db { D with nx := forRun dg db D r, ct := forRun dg db D r, bk := D.nx } ε' n
omit [MSt S] in
def dFor (di : DIt S) (dg : DGt) (db : DSt S) : DSt S := fun D ε n => di ε n fun items n1 => forRun dg db D items ε n1
theorem ss_for {wi : TI} {g : TG} {tb : TS} {di : DIt S} {dg : DGt} {db : DSt S} {ts : List Nat} (hi : SI K wi di) (hg : SG K g dg ts) (hb : SS K tb db) : SS K (tFor wi g tb) (dFor di dg db) := fun bo G0 H0 σ H G ε n D DD r l q =>
  hi bo G0 H0 σ H G ε n _ _ r q fun J G1 H1 items n1 g1 b1 w1 h1 => by
    have r1 := r.grow g1 b1
    have l1 := l.base r1.gr
    refine ⟨fun i m σ' H' => ∃ G' ε' n', Rl K bo G1 H0 σ' H' G' ε' n' ∧ i + m = items.length ∧ forRun dg db DD (items.drop i) ε' n', ⟨items.length, G1, ε, n1, r1.base, Nat.zero_add _, h1⟩, fun i m σ' H' hW => ?_⟩
    obtain ⟨G', ε', n', r', him, hrun⟩ := hW
    have W := w1 i G' H' r'.gr.gg r'.gh
    by_cases hlt : i < items.length
    · obtain ⟨hgo, hy⟩ := W.1 items[i] (List.getElem?_eq_getElem hlt)
      rw [List.drop_eq_getElem_cons hlt] at hrun
      refine .inr ⟨hgo, fun σ2 H2 => ∃ G2 ε2 n2, Rl K bo G1 H0 σ2 H2 G2 ε2 n2 ∧ forRun dg db DD (items.drop (i + 1)) ε2 n2, fun σ2 H2 h2 => ?_, fun x H2 hx => ?_⟩
      · obtain ⟨G2, ε2, n2, q1, q3⟩ := h2
        exact ⟨m - 1, by omega, G2, ε2, n2, q1, by omega, q3⟩
      · obtain ⟨G2, g2, hdp⟩ := hy x H2 hx
        have R2 := r'.grow g2.any (r'.bx.grow g2)
        refine hg bo G1 H0 σ' H2 G2 ε' n' x items[i] _ _ R2 hdp hrun fun σ3 ε3 R3 _ hrun3 => ?_
        exact hb bo G1 H0 σ3 H2 G2 ε3 n' _ { DD with nx := forRun dg db DD (items.drop (i + 1)), ct := forRun dg db DD (items.drop (i + 1)), bk := DD.nx } R3 ⟨fun σ4 H4 G4 ε4 n4 r4 c4 => ⟨G4, ε4, n4, r4, c4⟩, l1.rt, l1.nx, fun σ4 H4 G4 ε4 n4 r4 c4 => ⟨G4, ε4, n4, r4, c4⟩, l1.rf⟩ hrun3
    · refine .inl ⟨W.2 (by omega), ?_⟩
      rw [List.drop_eq_nil_of_le (by omega)] at hrun
      exact l1.nx σ' H' G' ε' n' r' hrun
theorem ds_for {iter : Expr} {body : List Stmt} {wi : TI} {g : TG} {tb : TS} {di : DIt S} {dg : DGt} {db : DSt S} {ts : List Nat} {pos : Pos} (hp : PassesOwn (model X.prog X.w) X.A X.env X.xe) (hc : X.calm = true) (hi : DI K X tg iter wi di) (hg : DG K X tg g dg ts) (hb : DSs K X body tb db)
    (hs : ∀ x, foldedSetIterable iter X.env x = pure x := by intro _; rfl) (hK : X.K = K := by rfl) : DS K X (.For tg iter body [] pos) (tFor wi g tb) (dFor di dg db) := by
  subst hK
  exact ⟨ps_for hp hc hi.pi hg.pg hb.ps hs, ss_for hi.si hg.sg hb.ss⟩
omit [MSt S] in
/-- while: W a word of the state, a number that falls -/
def dWhile (dt : DTt S) (db : DSt S) : DSt S := fun D ε n => ∃ W : Nat → En → S → Prop, (∃ m, W m ε n) ∧ ∀ m ε n, W m ε n → dt ε n fun b n1 => if b = true then db { D with nx := fun ε' n' => ∃ m', m' < m ∧ W m' ε' n', ct := fun ε' n' => ∃ m', m' < m ∧ W m' ε' n', bk := D.nx } ε n1 else D.nx ε n1
theorem ds_while {c : Expr} {body : List Stmt} {tc : TT} {dt : DTt S} {tb : TS} {db : DSt S} {pos : Pos} (hp : PassesOwn (model X.prog X.w) X.A X.env X.xe) (hc : DT K X c tc dt) (hb : DSs K X body tb db) (hK : X.K = K := by rfl) : DS K X (.While c body [] pos) (tWhile tc tb) (dWhile dt db) := by
  subst hK
  exact ⟨ps_while hp hc.pt hb.ps, fun bo G0 H0 σ H G ε n D DD r l q => by
      obtain ⟨W, ⟨m0, w0⟩, hs⟩ := q
      refine ⟨fun m σ' H' => ∃ G' ε' n', Rl X.K bo G0 H0 σ' H' G' ε' n' ∧ W m ε' n', ⟨m0, G, ε, n, r, w0⟩, fun m σ' H' hW => ?_⟩
      obtain ⟨G', ε', n', r', w'⟩ := hW
      refine hc.se bo G0 H0 σ' H' G' ε' n' _ _ r' (hs m ε' n' w') fun b G1 H1 n1 g1 b1 h1 => ?_
      have r1 := r'.grow g1 b1
      cases b with
      | true =>
        refine ⟨fun σ2 H2 => ∃ G2 ε2 n2 m2, m2 < m ∧ Rl X.K bo G0 H0 σ2 H2 G2 ε2 n2 ∧ W m2 ε2 n2, fun σ2 H2 h2 => ?_, ?_⟩
        · obtain ⟨G2, ε2, n2, m2, hm, q1, q2⟩ := h2
          exact ⟨m2, hm, G2, ε2, n2, q1, q2⟩
        · exact hb.ss bo G0 H0 σ' H1 G1 ε' n1 _ { DD with nx := fun ε' n' => ∃ m', m' < m ∧ W m' ε' n', ct := fun ε' n' => ∃ m', m' < m ∧ W m' ε' n', bk := DD.nx } r1 ⟨fun σ4 H4 G4 ε4 n4 r4 c4 => let ⟨m', q1, q2⟩ := c4; ⟨G4, ε4, n4, m', q1, r4, q2⟩, l.rt, l.nx, fun σ4 H4 G4 ε4 n4 r4 c4 => let ⟨m', q1, q2⟩ := c4; ⟨G4, ε4, n4, m', q1, r4, q2⟩, l.rf⟩ h1
      | false => exact l.nx σ' H1 G1 ε' n1 r1 h1⟩
  
/-! a list of its own is changed -/
omit [MSt S] in
def dApp (i : Nat) (de : DEt S) : DSt S := fun D ε n => ∃ ds, ε[i]? = some (.ow ds) ∧ de ε n fun d n1 => ds.length < 100000 ∧ D.nx (ε.set i (.ow (ds ++ [d]))) n1
theorem ds_append (i : Nat) {x : Str} {e : Expr} {te : TE} {de : DEt S} {p1 p2 pos pos2 : Pos} (h : DE K X e te de)
    (hp : PE X (.Call (.Attribute (.Name x p1) "append" p2) [e] [] pos) (tBM K "list" rAppend (tVar i) (tCons te tNil))) (hs : swapsWith (.Call (.Attribute (.Name x p1) "append" p2) [e] [] pos) none pos2.line X.env = pure false := by rfl) (hK : X.K = K := by rfl) :
    DS K X (.Expr (.Call (.Attribute (.Name x p1) "append" p2) [e] [] pos) pos2) (tDrop (tBM K "list" rAppend (tVar i) (tCons te tNil))) (dApp i de) := by
  subst hK
  exact ⟨ps_expr hp hs, fun bo G0 H0 σ H G ε n D DD r l q => by
    obtain ⟨ds, hi, q⟩ := q
    obtain ⟨a, vs, e1, e2, e3, e4, e5, e6⟩ := r.ow i ds hi
    refine ⟨.ref a, e1, .inl ⟨rfl, vs, .inl (.inl e2)⟩, h.se bo G0 H0 σ H G ε n _ _ r q fun v G1 H1 d n1 g1 b1 p1 h1 => ?_⟩
    obtain ⟨hl, h1⟩ := h1
    have r1 := r.grow g1 b1
    exact ⟨a, vs, v, rfl, rfl, g1.kp a _ e4 e2, szl (by rw [dpa_len e6]; exact hl), l.nx _ _ G1 _ n1 (r1.put hi e1 (dpa_app p1 (dpa_mono g1.gg e6))) h1⟩⟩
theorem dpa_take {G : Hp} : ∀ {vs : List V} {ds : List PyData} (k : Nat), DpAll K G vs ds → DpAll K G (vs.take k) (ds.take k)
  | _, _, 0, _ => .nil
  | _, _, _ + 1, .nil => .nil
  | _, _, k + 1, .cons h t => .cons h (dpa_take k t)
theorem dpa_drop {G : Hp} : ∀ {vs : List V} {ds : List PyData} (k : Nat), DpAll K G vs ds → DpAll K G (vs.drop k) (ds.drop k)
  | _, _, 0, h => h
  | _, _, _ + 1, .nil => .nil
  | _, _, k + 1, .cons h t => dpa_drop k t
theorem dpa_cat {G : Hp} : ∀ {vs ws : List V} {ds es : List PyData}, DpAll K G vs ds → DpAll K G ws es → DpAll K G (vs ++ ws) (ds ++ es)
  | _, _, _, _, .nil, h => h
  | _, _, _, _, .cons a t, h => .cons a (dpa_cat t h)
theorem dpa_set {G : Hp} {v : V} {d : PyData} (h : Dp K G v d) : ∀ {vs : List V} {ds : List PyData} (k : Nat), DpAll K G vs ds → DpAll K G (vs.set k v) (ds.set k d)
  | _, _, _, .nil => .nil
  | _, _, 0, .cons _ t => .cons h t
  | _, _, k + 1, .cons a t => .cons a (dpa_set h k t)
theorem dpa_rev {G : Hp} : ∀ {vs : List V} {ds : List PyData}, DpAll K G vs ds → DpAll K G vs.reverse ds.reverse
  | _, _, .nil => .nil
  | _, _, .cons h t => by
    rw [List.reverse_cons, List.reverse_cons]
    exact dpa_app h (dpa_rev t)
def insD (ds : List PyData) (i : Int) (d : PyData) : List PyData := ds.take i.toNat ++ [d] ++ ds.drop i.toNat
omit [MSt S] in
def dIns (i : Nat) (dk de : DEt S) : DSt S := fun D ε n => ∃ ds, ε[i]? = some (.ow ds) ∧ dk ε n fun kd n1 => de ε n1 fun d n2 => match kd with | .int k => ds.length < 100000 ∧ 0 ≤ k ∧ k < 1000000 ∧ D.nx (ε.set i (.ow (insD ds k d))) n2 | _ => False
theorem ds_insert (i : Nat) {x : Str} {e ek : Expr} {te tk : TE} {de dk : DEt S} {rI : V → List V → Hp → VK → Prop} {p1 p2 pos pos2 : Pos} (hk : DE K X ek tk dk) (h : DE K X e te de)
    (hp : PE X (.Call (.Attribute (.Name x p1) "insert" p2) [ek, e] [] pos) (tBM K "list" rI (tVar i) (tCons tk (tCons te tNil))))
    (hR : ∀ (l : Addr) (xs : List V) (k : Int) (y : V) (H : Hp) (Q : VK), H l = some (.lst xs) → xs.length < sizeLine → 0 ≤ k → k < 2 ^ 63 → Q .non (upd H l (.lst (xs.take k.toNat ++ [y] ++ xs.drop k.toNat))) → rI (.ref l) [.int k, y] H Q)
    (hs : swapsWith (.Call (.Attribute (.Name x p1) "insert" p2) [ek, e] [] pos) none pos2.line X.env = pure false := by rfl) (hK : X.K = K := by rfl) :
    DS K X (.Expr (.Call (.Attribute (.Name x p1) "insert" p2) [ek, e] [] pos) pos2) (tDrop (tBM K "list" rI (tVar i) (tCons tk (tCons te tNil)))) (dIns i dk de) := by
  subst hK
  exact ⟨ps_expr hp hs, fun bo G0 H0 σ H G ε n D DD r l q => by
    obtain ⟨ds, hi, q⟩ := q
    obtain ⟨a, vs, e1, e2, e3, e4, e5, e6⟩ := r.ow i ds hi
    refine ⟨.ref a, e1, .inl ⟨rfl, vs, .inl (.inl e2)⟩, hk.se bo G0 H0 σ H G ε n _ _ r q fun vk G1 H1 kd n1 g1 b1 pk h1 => ?_⟩
    have r1 := r.grow g1 b1
    refine h.se bo G0 H0 σ H1 G1 ε n1 _ _ r1 h1 fun v G2 H2 d n2 g2 b2 p2 h2 => ?_
    have r2 := r1.grow g2 b2
    cases pk with
    | int k =>
      obtain ⟨hl, k0, k1, h2⟩ := h2
      have hd := dpa_mono (g1.gg.trans g2.gg) e6
      exact hR a vs k v H2 _ (g2.kp a _ e4 (g1.kp a _ e4 e2)) (szl (by rw [dpa_len e6]; exact hl)) k0 (Int.lt_trans k1 (by decide)) (l.nx _ _ G2 _ n2 (r2.put hi e1 (dpa_cat (dpa_app p2 (dpa_take k.toNat hd)) (dpa_drop k.toNat hd))) h2)
    | _ => exact h2.elim⟩
omit [MSt S] in
/-- xs[k] = e, xs a list of its own -/
def dSet (i : Nat) (de dk : DEt S) : DSt S := fun D ε n => ∃ ds, ε[i]? = some (.ow ds) ∧ de ε n fun d n1 => dk ε n1 fun kd n2 => match kd with | .int k => 0 ≤ k ∧ k < (ds.length : Int) ∧ D.nx (ε.set i (.ow (ds.set k.toNat d))) n2 | _ => False
theorem ds_setItem (i : Nat) {x : Str} {e ek : Expr} {te tk : TE} {de dk : DEt S} {p1 p2 pos : Pos} (h : DE K X e te de) (hk : DE K X ek tk dk)
    (hp : PS X (.Assign [.Subscript (.Name x p1) ek p2] e pos) (tAsg te (gSub (tVar i) tk rSetL))) (hK : X.K = K := by rfl) :
    DS K X (.Assign [.Subscript (.Name x p1) ek p2] e pos) (tAsg te (gSub (tVar i) tk rSetL)) (dSet i de dk) := by
  subst hK
  exact ⟨hp, fun bo G0 H0 σ H G ε n D DD r l q => by
    obtain ⟨ds, hi, q⟩ := q
    obtain ⟨a, vs, e1, e2, e3, e4, e5, e6⟩ := r.ow i ds hi
    refine h.se bo G0 H0 σ H G ε n _ _ r q fun v G1 H1 d n1 g1 b1 p1 h1 => ⟨.ref a, e1, ?_⟩
    have r1 := r.grow g1 b1
    refine hk.se bo G0 H0 σ H1 G1 ε n1 _ _ r1 h1 fun vk G2 H2 kd n2 g2 b2 pk h2 => ?_
    have r2 := r1.grow g2 b2
    cases pk with
    | int k =>
      obtain ⟨k0, k1, h2⟩ := h2
      have hix : ixN vs.length k = some k.toNat := by
        unfold ixN
        rw [if_pos k0, if_pos (by rw [dpa_len e6]; exact k1)]
      exact ⟨a, vs, k, k.toNat, rfl, rfl, g2.kp a _ e4 (g1.kp a _ e4 e2), hix, l.nx _ _ G2 _ n2 (r2.put hi e1 (dpa_set (dp_mono g2.gg p1) _ (dpa_mono (g1.gg.trans g2.gg) e6))) h2⟩
    | _ => exact h2.elim⟩
end
end DL

set_option Elab.async false
set_option linter.all false
set_option autoImplicit false
set_option maxRecDepth 100000
namespace DL
open PySem PySem.Spec PyProof.Rows L2
variable {S : Type} [MSt S]

/-! ### calls of the program's own defs, by what they do with data -/
abbrev ConS (S : Type) := List Ag → S → (PyData → S → Prop) → Prop
abbrev Con := ConS Nat
def spD (K : PySem.W.Frag) (m : Nat) (con : ConS S) : Sp := fun vs H Q _ => ∃ (bo : Option Bo) (G : Hp) (as : List Ag) (n : S) (P : PyData → S → Prop), vs.length = m ∧ AgsR K bo G vs as ∧ Same G H ∧ BoxO K G H bo n ∧ (∀ a, Has bo a → G a = none) ∧ con as n P ∧
  ∀ v G' H' d n', Grow bo G H G' H' → BoxO K G' H' bo n' → Dp K G' v d → P d n' → Q v H'
structure Kf (P : Program) (w : World) (K : PySem.W.Frag) (mg : Str → Option Value) (base : Heap) (x : Str) (k m : Nat) (con : ConS S) : Prop where
  ex : ∃ (f : Addr) (fd : FuncData) (ps : List Str), FnOk P w K mg base CX0 k f fd ps (spD K m con) ∧ mg x = some (.ref f) ∧ PySem.W.keepIn K (.ref f) = true ∧ Binds K fd ps []
theorem ags_len {K : PySem.W.Frag} {bo : Option Bo} {G : Hp} : ∀ {vs : List V} {as : List Ag}, AgsR K bo G vs as → vs.length = as.length
  | _, _, .nil => rfl
  | _, _, .cons _ t => by rw [List.length_cons, List.length_cons, ags_len t]
omit [MSt S] in
def dCall (m : Nat) (con : ConS S) (da : DAt S) : DEt S := fun ε n P => da ε n fun as n1 => as.length = m ∧ con as n1 P
theorem se_call {K : PySem.W.Frag} {m : Nat} {con : ConS S} {E : XK} {ta : TA} {da : DAt S} (h : SA K ta da) : SE K (tCall (spD K m con) [] E ta) (dCall m con da) := fun bo G0 H0 σ H G ε n P Q R hp k =>
  h bo G0 H0 σ H G ε n _ _ R hp fun vs G1 H1 as n1 g1 b1 p1 h1 => by
    have R1 := R.grow g1 b1
    show spD K m con (vs ++ []) H1 Q E
    rw [List.append_nil]
    exact ⟨bo, G1, as, n1, P, (ags_len p1).trans h1.1, p1, g1.gh, b1, R1.gb, h1.2, fun v G' H' d n' g' b' p' h' => k v G' H' d n' (g1.trans b1 g') b' p' h'⟩
section
variable {X : Cx} {K : PySem.W.Frag} {x : Str} {k m : Nat} {con : ConS S} {e : Expr} {es : List Expr} {ta : TA} {da : DAt S} {p pos : Pos}
theorem de_call (F : Kf X.prog X.w K X.mg X.base x k m con) (hr : Room k X.A) (hg : Gl X x) (h : DA K X (e :: es) ta da) (hdb : (x == ("__debug__" : Str)) = false := by decide)
    (he : starEach (e :: es) X.env = (false, eval e X.env) :: starEach es X.env := by rfl) (hpl : (backTo pos (starEach es X.env)).any (·.1) = false := by rfl) (hK : X.K = K := by rfl) :
    DE K X (.Call (.Name x p) (e :: es) [] pos) (tCall (spD K m con) [] E0 ta) (dCall m con da) := by
  subst hK
  obtain ⟨f, fd, ps, F1, F2, F3, F4⟩ := F.ex
  exact ⟨pe_call F1 hr hg F2 F3 F4 .nil pass0 h.pa hdb he hpl, se_call h.se⟩
end
def agSl : Ag → Sl
  | .im d => .im d
  | .bx => .bx
  | .rd o => .rd o
def en0 (N : List Str) (as : List Ag) : En := as.map agSl ++ List.replicate (N.length - as.length) .no
theorem ags_get {K : PySem.W.Frag} {bo : Option Bo} {G : Hp} : ∀ {vs : List V} {as : List Ag} {i : Nat} {a : Ag}, AgsR K bo G vs as → as[i]? = some a → ∃ v, vs[i]? = some v ∧ AgR K bo G v a
  | _, _, _, _, .nil, e => by simp at e
  | _, _, 0, _, .cons h _, e => by
    simp at e
    subst e
    exact ⟨_, rfl, h⟩
  | _, _, i + 1, a, .cons _ t, e => by
    obtain ⟨v, h1, h2⟩ := ags_get (i := i) (a := a) t (by simpa using e)
    exact ⟨v, by simpa using h1, h2⟩
theorem rl_start {K : PySem.W.Frag} {bo : Option Bo} {G H : Hp} {N : List Str} {vs : List V} {as : List Ag} {n : S} (hl : as.length ≤ N.length) (h : AgsR K bo G vs as) (s : Same G H) (b : BoxO K G H bo n) (hb : ∀ a, Has bo a → G a = none) : Rl K bo G H (L2.start N vs) H G (en0 N as) n := by
  have hlen := ags_len h
  have key : ∀ (i : Nat) (x : Sl), (en0 N as)[i]? = some x → x ≠ .no → ∃ a, as[i]? = some a ∧ x = agSl a := fun i x e hx => by
    unfold en0 at e
    by_cases hi : i < as.length
    · rw [List.getElem?_append_left (by rw [List.length_map]; exact hi), List.getElem?_map, List.getElem?_eq_getElem hi] at e
      exact ⟨as[i], List.getElem?_eq_getElem hi, (Option.some.inj e).symm⟩
    · rw [List.getElem?_append_right (by rw [List.length_map]; omega), List.getElem?_replicate] at e
      split at e
      · exact absurd (Option.some.inj e).symm hx
      · cases e
  have at_ : ∀ (i : Nat) (v : V), vs[i]? = some v → (L2.start N vs)[i]? = some (some v) := fun i v e => by
    unfold L2.start
    have hi := (List.getElem?_eq_some_iff.mp e).1
    rw [List.getElem?_append_left (by rw [List.length_map]; exact hi), List.getElem?_map, e]
    rfl
  refine ⟨Grow.refl s, b, hb, ?_, fun i d e => ?_, fun i e => ?_, fun i o e => ?_, fun _ => [], fun _ _ _ _ h => (nomatch h), fun _ _ h => (nomatch h), fun i t o e ho => ?_⟩
  · unfold L2.start en0
    rw [List.length_append, List.length_append, List.length_map, List.length_map, List.length_replicate, List.length_replicate, hlen]
  · obtain ⟨a, e1, e2⟩ := key i _ e (fun z => nomatch z)
    cases a with
    | im d' =>
      cases e2
      obtain ⟨v, h1, h2⟩ := ags_get h e1
      exact ⟨v, at_ i v h1, h2⟩
    | bx => cases e2
    | rd _ => cases e2
  · obtain ⟨a, e1, e2⟩ := key i _ e (fun z => nomatch z)
    cases a with
    | im d' => cases e2
    | rd _ => cases e2
    | bx =>
      obtain ⟨v, h1, b', h2, rfl⟩ := ags_get h e1
      exact ⟨b', h2, at_ i _ h1⟩
  · obtain ⟨a, e1, e2⟩ := key i _ e (fun z => nomatch z)
    cases a with
    | im d' => cases e2
    | bx => cases e2
    | rd o' =>
      cases e2
      obtain ⟨v, h1, f, h2⟩ := ags_get h e1
      exact ⟨v, f, at_ i v h1, h2⟩
  · obtain ⟨a, e1, e2⟩ := key i _ e (fun z => by rw [z] at ho; cases ho)
    subst e2
    cases a <;> cases ho
/-- THE RULE for a def: its body by the layer's rules, then what its reading says of data -/
theorem def_ok {P : Program} {w : World} {K : PySem.W.Frag} {mg : Str → Option Value} {base : Heap} {x qual : Str} {st : Stmt} {f : Addr} {fd : FuncData} {N ps : List Str} {k m : Nat} {con : ConS S} (F : Fun K x qual st f fd) (Sc : FnScope N ps (defScope st)) (hm : ps.length = m)
    (h : ∀ (cdv : Value) (A : Around) (outer : List Env) (s : Shared) (H : Hp) (E : XK), Room k (A.deeper (envOfC qual (defScope st) s.heap.objs.size f cdv)) →
      ∃ ts ds, DSs K (cxOf CX0 P w K mg base N qual (defScope st) f cdv A outer s H E).nox (defBody st) ts ds ∧ ∀ (as : List Ag) (n : S) (P : PyData → S → Prop), as.length = m → con as n P → ds { nx := fun _ n => P .none n, rt := P } (en0 N as) n) : FnOk P w K mg base CX0 (k + 1) f fd ps (spD K m con) := by
  refine F.ok Sc (fun vs H Q E h => ?_) (fun cdv A outer s H vs Q E hr hsp => ?_)
  · obtain ⟨_, _, _, _, _, q, _⟩ := h
    exact q.trans hm.symm
  · obtain ⟨bo, G, as, n, P', hl, ha, sg, hb, hgb, hc, kk⟩ := hsp
    obtain ⟨ts, ds, hD, hds⟩ := h cdv A outer s H E hr
    have hlen : as.length = m := (ags_len ha).symm.trans hl
    have hN : as.length ≤ N.length := by
      have := congrArg List.length Sc.pre
      rw [List.length_take] at this
      omega
    refine ⟨ts, hD.ps, hD.ss bo G H (L2.start N vs) H G (en0 N as) n _ { nx := fun _ n => P' .none n, rt := P' } (rl_start hN ha sg hb hgb) ⟨fun σ H' G' ε n r q => kk .non G' H' .none n r.gr r.bx .non q, fun v G' H' d n g b p q => kk v G' H' d n g b p q, fun _ _ _ _ _ _ q => q.elim, fun _ _ _ _ _ _ q => q.elim, fun _ _ _ _ _ _ _ _ _ _ q => q.elim⟩ (hds as n P' hlen hc)⟩

/-! ### built-ins -/
/-- of one sequence (a list that is not kept on may be handed in, too) -/
abbrev FQ := Bool → List PyData → (PyData → Prop) → Prop
def CbQ (K : PySem.W.Frag) (r : List V → Hp → VK → Prop) (F : FQ) : Prop := ∀ (G H : Hp) (a : Addr) (vs : List V) (k : Bool) (ds : List PyData) (C : PyData → Prop) (Q : VK), Same G H → SqQ K k G H a vs → DpAll K G vs ds → F k ds C →
  (∀ v G' H' d, Grow none G H G' H' → Dp K G' v d → C d → Q v H') → r [.ref a] H Q
omit [MSt S] in
def dCbQ (F : FQ) (dq : DQt S) : DEt S := fun ε n P => dq ε n fun k ds n1 => F k ds fun z => P z n1
theorem SqQ.lt {K : PySem.W.Frag} {k : Bool} {G H : Hp} {a : Addr} {vs : List V} (s : Same G H) (h : SqQ K k G H a vs) : SqL K H a vs ∨ SqT K H a vs := by
  cases k with
  | true => exact .inr (sqt_mono s h)
  | false => exact .inl (.inl (.inl h))
section
variable {X : Cx} {K : PySem.W.Frag} {x : Str} {id T : String} {r : List V → Hp → VK → Prop} {F : FQ} {e a b : Expr} {te ta tb : TE} {dq : DQt S} {de da db : DEt S} {p pos : Pos}
theorem se_cbq {K : PySem.W.Frag} (hs : CbQ K r F) (h : SQ K te dq) : SE K (tCB r (tCons te tNil)) (dCbQ F dq) := fun bo G0 H0 σ H G ε n P Q R hp k =>
  h bo G0 H0 σ H G ε n _ _ R hp fun a vs G1 H1 kk ds n1 g1 b1 _ sq ha h1 => hs G1 H1 a vs kk ds _ _ g1.gh sq ha h1 fun v G2 H2 d g2 p2 c2 => k v G2 H2 d n1 (g1.trans b1 g2.any) (b1.grow g2) p2 c2
theorem de_cbq (hc : CallR X (.builtin id) r) (hs : CbQ K r F) (hg : Gl X x) (hm : X.mg x = none) (hv : bootBuiltins x = some (.builtin id)) (h : DQ K X e te dq) (hn : x ≠ "__name__" := by decide) (hdb : (x == ("__debug__" : Str)) = false := by decide)
    (he : starEach (e :: []) X.env = (false, eval e X.env) :: starEach [] X.env := by rfl) (hpl : (backTo pos (starEach [] X.env)).any (·.1) = false := by rfl) (hK : X.K = K := by rfl) : DE K X (.Call (.Name x p) [e] [] pos) (tCB r (tCons te tNil)) (dCbQ F dq) := by
  subst hK
  exact ⟨pe_callB hc hg hm hv (pa_cons h.pe pa_nil he) hn hdb he hpl, se_cbq hs h.se⟩
theorem de_cbqT (hc : CallR X (.type T) r) (hs : CbQ K r F) (hg : Gl X x) (hm : X.mg x = none) (hv : bootBuiltins x = some (.type T)) (h : DQ K X e te dq) (hn : x ≠ "__name__" := by decide) (hdb : (x == ("__debug__" : Str)) = false := by decide)
    (he : starEach (e :: []) X.env = (false, eval e X.env) :: starEach [] X.env := by rfl) (hpl : (backTo pos (starEach [] X.env)).any (·.1) = false := by rfl) (hK : X.K = K := by rfl) : DE K X (.Call (.Name x p) [e] [] pos) (tCB r (tCons te tNil)) (dCbQ F dq) := by
  subst hK
  exact ⟨pe_callTy hc hg hm hv (pa_cons h.pe pa_nil he) hn hdb he hpl, se_cbq hs h.se⟩
/-- len -/
def fLen : FQ := fun _ ds C => C (.int (ds.length : Int))
theorem de_len (hg : Gl X "len") (hm : X.mg "len" = none) (h : DQ K X e te dq) (he : starEach (e :: []) X.env = (false, eval e X.env) :: starEach [] X.env := by rfl) (hpl : (backTo pos (starEach [] X.env)).any (·.1) = false := by rfl) (hK : X.K = K := by rfl) :
    DE K X (.Call (.Name "len" p) [e] [] pos) (tCB (fun xs H Q => ∃ p ys, xs = [.ref p] ∧ (SqL K H p ys ∨ SqT K H p ys) ∧ Q (.int ys.length) H) (tCons te tNil)) (dCbQ fLen dq) := by
  subst hK
  exact de_cbq call_len_seq (fun G H a vs k ds C Q s sq ha h kk => ⟨a, vs, rfl, sq.lt s, kk _ G H _ (Grow.refl s) (.int _) (by rw [dpa_len ha]; exact h)⟩) hg hm PySem.boot_len h (by decide) (by decide) he hpl
/-- all, any of bools -/
def blD : List PyData → Option (List Bool)
  | [] => some []
  | .bool b :: r => (blD r).map (b :: ·)
  | _ => none
theorem bl_map {K : PySem.W.Frag} {G : Hp} : ∀ {vs : List V} {ds : List PyData} {bs : List Bool}, DpAll K G vs ds → blD ds = some bs → vs = bs.map V.bl
  | _, [], bs, .nil, e => by
    cases e
    rfl
  | _, d :: r, bs, .cons h t, e => by
    cases h with
    | bl b =>
      cases q : blD r with
      | none =>
        simp only [blD, q] at e
        cases e
      | some cs =>
        simp only [blD, q] at e
        cases e
        rw [bl_map t q]
        rfl
    | _ => cases e
def fAll : FQ := fun k ds C => k = false ∧ ∃ bs, blD ds = some bs ∧ C (.bool (bs.all _root_.id))
def fAny : FQ := fun k ds C => k = false ∧ ∃ bs, blD ds = some bs ∧ C (.bool (bs.any _root_.id))
theorem de_all (hcal : X.calm = true) (hg : Gl X "all") (hm : X.mg "all" = none) (h : DQ K X e te dq) (he : starEach (e :: []) X.env = (false, eval e X.env) :: starEach [] X.env := by rfl) (hpl : (backTo pos (starEach [] X.env)).any (·.1) = false := by rfl) (hK : X.K = K := by rfl) :
    DE K X (.Call (.Name "all" p) [e] [] pos) (tCB (rAll K) (tCons te tNil)) (dCbQ fAll dq) := by
  subst hK
  exact de_cbq (cr_all hcal) (fun G H a vs k ds C Q s sq ha h kk => by
      obtain ⟨rfl, bs, e1, h⟩ := h
      have ev := bl_map ha e1
      subst ev
      exact ⟨a, bs, rfl, .inl (.inl sq), kk _ G H _ (Grow.refl s) (.bl _) h⟩) hg hm boot_all h (by decide) (by decide) he hpl
theorem de_any (hcal : X.calm = true) (hg : Gl X "any") (hm : X.mg "any" = none) (h : DQ K X e te dq) (he : starEach (e :: []) X.env = (false, eval e X.env) :: starEach [] X.env := by rfl) (hpl : (backTo pos (starEach [] X.env)).any (·.1) = false := by rfl) (hK : X.K = K := by rfl) :
    DE K X (.Call (.Name "any" p) [e] [] pos) (tCB (rAny K) (tCons te tNil)) (dCbQ fAny dq) := by
  subst hK
  exact de_cbq (cr_any hcal) (fun G H a vs k ds C Q s sq ha h kk => by
      obtain ⟨rfl, bs, e1, h⟩ := h
      have ev := bl_map ha e1
      subst ev
      exact ⟨a, bs, rfl, .inl (.inl sq), kk _ G H _ (Grow.refl s) (.bl _) h⟩) hg hm boot_any h (by decide) (by decide) he hpl
/-- ints -/
def inD : List PyData → Option (List Int)
  | [] => some []
  | .int b :: r => (inD r).map (b :: ·)
  | _ => none
theorem in_map {K : PySem.W.Frag} {G : Hp} : ∀ {vs : List V} {ds : List PyData} {bs : List Int}, DpAll K G vs ds → inD ds = some bs → vs = bs.map V.int
  | _, [], bs, .nil, e => by
    cases e
    rfl
  | _, d :: r, bs, .cons h t, e => by
    cases h with
    | int b =>
      cases q : inD r with
      | none =>
        simp only [inD, q] at e
        cases e
      | some cs =>
        simp only [inD, q] at e
        cases e
        rw [in_map t q]
        rfl
    | _ => cases e
theorem in_of {K : PySem.W.Frag} {G : Hp} : ∀ (bs : List Int), DpAll K G (bs.map V.int) (bs.map PyData.int)
  | [] => .nil
  | b :: r => .cons (.int b) (in_of r)
theorem inD_map : ∀ (bs : List Int), inD (bs.map PyData.int) = some bs
  | [] => rfl
  | b :: r => by
    show (inD (r.map PyData.int)).map (b :: ·) = _
    rw [inD_map r]
    rfl
theorem blD_map : ∀ (bs : List Bool), blD (bs.map PyData.bool) = some bs
  | [] => rfl
  | b :: r => by
    show (blD (r.map PyData.bool)).map (b :: ·) = _
    rw [blD_map r]
    rfl
def fSum : FQ := fun k ds C => k = false ∧ ∃ ns, inD ds = some ns ∧ C (.int ns.sum)
theorem de_sum (hcal : X.calm = true) (hg : Gl X "sum") (hm : X.mg "sum" = none) (h : DQ K X e te dq) (he : starEach (e :: []) X.env = (false, eval e X.env) :: starEach [] X.env := by rfl) (hpl : (backTo pos (starEach [] X.env)).any (·.1) = false := by rfl) (hK : X.K = K := by rfl) :
    DE K X (.Call (.Name "sum" p) [e] [] pos) (tCB (rSum K) (tCons te tNil)) (dCbQ fSum dq) := by
  subst hK
  exact de_cbq (cr_sum hcal) (fun G H a vs k ds C Q s sq ha h kk => by
      obtain ⟨rfl, bs, e1, h⟩ := h
      have ev := in_map ha e1
      subst ev
      exact ⟨a, bs, rfl, .inl (.inl sq), kk _ G H _ (Grow.refl s) (.int _) h⟩) hg hm boot_sum h (by decide) (by decide) he hpl
/-- tuple(xs) -/
def fTuple : FQ := fun _ ds C => C (.tuple ds)
theorem de_tuple (hg : Gl X "tuple") (hm : X.mg "tuple" = none) (h : DQ K X e te dq) (he : starEach (e :: []) X.env = (false, eval e X.env) :: starEach [] X.env := by rfl) (hpl : (backTo pos (starEach [] X.env)).any (·.1) = false := by rfl) (hK : X.K = K := by rfl) :
    DE K X (.Call (.Name "tuple" p) [e] [] pos) (tCB (fun xs H Q => ∃ p ys, xs = [.ref p] ∧ ((SqL K H p ys ∧ ∀ l, H l = none → Q (.ref l) (upd H l (.tup ys))) ∨ (SqT K H p ys ∧ Q (.ref p) H))) (tCons te tNil)) (dCbQ fTuple dq) := by
  subst hK
  exact de_cbqT call_tuple_of (fun G H a vs k ds C Q s sq ha h kk => by
      cases k with
      | true => exact ⟨a, vs, rfl, .inr ⟨sqt_mono s sq, kk _ G H _ (Grow.refl s) (.tup sq ha) h⟩⟩
      | false => exact ⟨a, vs, rfl, .inl ⟨.inl (.inl sq), fun l hl => kk _ _ _ _ (Grow.into s hl) (.tup (.inl (.inl upd_same)) (dpa_mono (same_new (s.free hl)) ha)) h⟩⟩) hg hm boot_tuple h (by decide) (by decide) he hpl
omit [MSt S] in
/-- list(xs): new -/
def dListQ (dq : DQt S) : DFt S := fun ε n P => dq ε n fun _ ds n1 => P ds n1
theorem df_list (hg : Gl X "list") (hm : X.mg "list" = none) (h : DQ K X e te dq) (he : starEach (e :: []) X.env = (false, eval e X.env) :: starEach [] X.env := by rfl) (hpl : (backTo pos (starEach [] X.env)).any (·.1) = false := by rfl) (hK : X.K = K := by rfl) :
    DF K X (.Call (.Name "list" p) [e] [] pos) (tCB (fun xs H Q => ∃ p ys, xs = [.ref p] ∧ (SqL K H p ys ∨ SqT K H p ys) ∧ ∀ l, H l = none → Q (.ref l) (upd H l (.lst ys))) (tCons te tNil)) (dListQ dq) := by
  subst hK
  exact ⟨pe_callTy call_list_of hg hm boot_list (pa_cons h.pe pa_nil he) (by decide) (by decide) he hpl, fun bo G0 H0 σ H G ε n P Q R hp k =>
      h.se bo G0 H0 σ H G ε n _ _ R hp fun a vs G1 H1 kk ds n1 g1 b1 _ sq ha h1 => ⟨a, vs, rfl, sq.lt g1.gh, fun l hl =>
        k l vs G1 _ ds n1 (g1.trans b1 (Grow.out g1.gh hl)) (b1.grow (Grow.out (G := G1) g1.gh hl)) (g1.back b1 hl) (g1.gh.free hl) upd_same ha h1⟩⟩
omit [MSt S] in
/-- sorted(xs) of ints: new -/
def dSortQ (dq : DQt S) : DFt S := fun ε n P => dq ε n fun k ds n1 => k = false ∧ ∃ ns, inD ds = some ns ∧ ∀ ns' : List Int, ns'.Perm ns → ns'.Pairwise (· ≤ ·) → P (ns'.map PyData.int) n1
theorem df_sorted (hg : Gl X "sorted") (hm : X.mg "sorted" = none) (h : DQ K X e te dq) (he : starEach (e :: []) X.env = (false, eval e X.env) :: starEach [] X.env := by rfl) (hpl : (backTo pos (starEach [] X.env)).any (·.1) = false := by rfl) (hK : X.K = K := by rfl) :
    DF K X (.Call (.Name "sorted" p) [e] [] pos) (tCB (rSortedI K) (tCons te tNil)) (dSortQ dq) := by
  subst hK
  exact ⟨pe_callB cr_sortedI hg hm boot_sorted (pa_cons h.pe pa_nil he) (by decide) (by decide) he hpl, fun bo G0 H0 σ H G ε n P Q R hp k =>
      h.se bo G0 H0 σ H G ε n _ _ R hp fun a vs G1 H1 kk ds n1 g1 b1 _ sq ha h1 => by
        obtain ⟨rfl, ns, e1, h1⟩ := h1
        have ev := in_map ha e1
        subst ev
        exact ⟨a, ns, rfl, .inl (.inl sq), fun ns' l hp hs hl =>
          k l _ G1 _ _ n1 (g1.trans b1 (Grow.out g1.gh hl)) (b1.grow (Grow.out (G := G1) g1.gh hl)) (g1.back b1 hl) (g1.gh.free hl) upd_same (in_of ns') (h1 ns' hp hs)⟩⟩
omit [MSt S] in
/-- list(range(n)), tuple(range(n)) -/
def dRgL (de : DEt S) : DFt S := fun ε n P => de ε n fun d n1 => match d with | .int j => 0 ≤ j ∧ j ≤ 100000 ∧ P (rgD j.toNat) n1 | _ => False
omit [MSt S] in
def dRgT (de : DEt S) : DEt S := fun ε n P => de ε n fun d n1 => match d with | .int j => 0 ≤ j ∧ j ≤ 100000 ∧ P (.tuple (rgD j.toNat)) n1 | _ => False
/-- items by place -/
def fIx : List PyData → PyData → (PyData → Prop) → Prop
  | ds, .int i, C => ∃ d, atI ds i = some d ∧ C d
  | _, _, _ => False
omit [MSt S] in
def dIx (dq : DQt S) (db : DEt S) : DEt S := fun ε n P => dq ε n fun _ ds n1 => db ε n1 fun i n2 => fIx ds i fun z => P z n2
theorem dpa_atI {K : PySem.W.Frag} {G : Hp} {vs : List V} {ds : List PyData} {i : Int} {d : PyData} (h : DpAll K G vs ds) (e : atI ds i = some d) : ∃ v, atI vs i = some v ∧ Dp K G v d := by
  unfold atI at e ⊢
  rw [dpa_len h]
  cases q : ixN ds.length i with
  | none =>
    rw [q] at e
    cases e
  | some j =>
    rw [q] at e
    exact dpa_get h e
theorem de_ix (ha : DQ K X a ta dq) (hb : DE K X b tb db) (hs : PlainIx b) (hK : X.K = K := by rfl) : DE K X (.Subscript a b pos) (tOp (rIx K) ta tb) (dIx dq db) := by
  subst hK
  exact ⟨pe_ix ix_seq ha.pe hb.pe hs, fun bo G0 H0 σ H G ε n P Q R hp k =>
    ha.se bo G0 H0 σ H G ε n _ _ R hp fun a vs G1 H1 kk ds n1 g1 b1 hbo sq hd h1 =>
    hb.se bo G0 H0 σ H1 G1 ε n1 _ _ (R.grow g1 b1) h1 fun v G2 H2 d n2 g2 b2 p2 h2 => by
      cases p2 with
      | int i =>
        obtain ⟨d, e1, h2⟩ := h2
        obtain ⟨y, e2, e3⟩ := dpa_atI hd e1
        have fin := k y G2 H2 d n2 (g1.trans b1 g2) b2 (dp_mono g2.gg e3) h2
        cases kk with
        | true => exact .inr (.inl ⟨a, vs, i, y, rfl, rfl, sqt_mono (g2.gg.trans g2.gh) sq, e2, fin⟩)
        | false =>
          exact .inl ⟨a, vs, i, y, rfl, rfl, .inl (.inl (g2.kp a _ (hbo rfl) sq)), e2, fin⟩
      | _ => exact h2.elim⟩
end
end DL

set_option Elab.async false
set_option linter.all false
set_option autoImplicit false
set_option maxRecDepth 100000
namespace DL
open PySem PySem.Spec PyProof.Rows L2
variable {S : Type} [MSt S]

theorem opr_or {X : Cx} {f : Value → Value → Sem Value} {r r' : R2} (h : OpR X f r) (h' : OpR X f r') : OpR X f (fun x y H Q => r x y H Q ∨ r' x y H Q) := by
  intro pins s σ H x y v u Q I rx ry q
  rcases q with q | q
  · exact h pins s σ H x y v u Q I rx ry q
  · exact h' pins s σ H x y v u Q I rx ry q
/-! ### what is walked: a list or a tuple -/
def iSeq (K : PySem.W.Frag) (tl : TE) : TI := fun σ H R => tl σ H fun x H1 => ∃ a, x = .ref a ∧ (((∃ xs, SqL K H1 a xs) ∧ R (Itl K a) H1) ∨ ((∃ xs, SqT K H1 a xs) ∧ R (Itt K a) H1))
section
variable {X : Cx} {K : PySem.W.Frag} {tg e a b : Expr} {te ta tb : TE} {de da db : DEt S} {dq : DQt S} {p pos : Pos}
theorem pi_seq {l : Expr} {tl : TE} (hl : PE X l tl) : PI X tg l (iSeq X.K tl) := by
  refine ⟨fun pins s σ H R I h => ?_⟩
  refine thn (hl.run pins s σ H _ I h) fun v s1 ⟨x, H1, I1, r1, q1⟩ => ?_
  obtain ⟨a, e, q⟩ := q1
  subst e
  cases r1
  rcases q with ⟨⟨xs, hq⟩, q⟩ | ⟨⟨xs, hq⟩, q⟩
  · obtain ⟨its, rv, p, hz⟩ := I1.list hq
    refine wpAny_pyIter_list p.isList ?_
    refine ⟨s1.heap.objs.size, [s1.heap.objs.size], _, _, H1, rfl, I1.kept (t' := s1.toks) fun b o e => Heap.get?_push_of_some _ e, turn_list a _, ⟨_, Heap.get?_push_size _ rfl, rfl, rfl⟩, fun b hb => ?_, q⟩
    have e : b = s1.heap.objs.size := by simpa using hb
    subst e
    exact I1.fpOk (Nat.le_refl _) (I1.hok.fresh (Nat.le_refl _))
  · obtain ⟨its, rv, p, hz⟩ := I1.tuple hq
    refine wpAny_pyIter_tuple (show s1.heap.IsTuple a its.toArray from p) ?_
    refine ⟨s1.heap.objs.size, [s1.heap.objs.size], _, _, H1, rfl, I1.kept (t' := s1.toks) fun b o e => Heap.get?_push_of_some _ e, turn_tuple a _, ⟨_, Heap.get?_push_size _ rfl, rfl, rfl⟩, fun b hb => ?_, q⟩
    have e : b = s1.heap.objs.size := by simpa using hb
    subst e
    exact I1.fpOk (Nat.le_refl _) (I1.hok.fresh (Nat.le_refl _))
omit [MSt S] in
def dItS (de : DEt S) : DIt S := fun ε n P => de ε n fun d n1 => match seqD d with | some (_, ds) => P ds n1 | none => False
theorem wlk_list {K : PySem.W.Frag} {G : Hp} {a : Addr} {xs : List V} {ds : List PyData} (s : G a = some (.lst xs)) (ha : DpAll K G xs ds) : Wlk K (Itl K a) G ds := fun i G2 H2 s1 s2 => by
  have sq : SqL K H2 a xs := .inl (.inl (s2 _ _ (s1 _ _ s)))
  refine ⟨fun d hd => ?_, fun hl => ⟨_, sq, by rw [dpa_len ha]; exact hl⟩⟩
  obtain ⟨x, hx, hdp⟩ := dpa_get ha hd
  refine ⟨⟨_, x, sq, hx⟩, fun y H' hy => ?_⟩
  obtain ⟨rfl, hy⟩ := hy
  have := hy _ sq
  rw [hx] at this
  cases this
  exact ⟨G2, Grow.refl s2, dp_mono s1 hdp⟩
theorem wlk_tup {K : PySem.W.Frag} {G : Hp} {a : Addr} {xs : List V} {ds : List PyData} (s : SqT K G a xs) (ha : DpAll K G xs ds) : Wlk K (Itt K a) G ds := fun i G2 H2 s1 s2 => by
  have sq : SqT K H2 a xs := sqt_mono s2 (sqt_mono s1 s)
  refine ⟨fun d hd => ?_, fun hl => ⟨_, sq, by rw [dpa_len ha]; exact hl⟩⟩
  obtain ⟨x, hx, hdp⟩ := dpa_get ha hd
  refine ⟨⟨_, x, sq, hx⟩, fun y H' hy => ?_⟩
  obtain ⟨rfl, hy⟩ := hy
  have := hy _ sq
  rw [hx] at this
  cases this
  exact ⟨G2, Grow.refl s2, dp_mono s1 hdp⟩
theorem di_seq (h : DE K X e te de) (hK : X.K = K := by rfl) : DI K X tg e (iSeq K te) (dItS de) := by
  subst hK
  exact ⟨pi_seq h.pe, fun bo G0 H0 σ H G ε n P R r hp k =>
    h.se bo G0 H0 σ H G ε n _ _ r hp fun v G1 H1 d n1 g1 b1 p1 h1 => by
      cases p1 with
      | lst s ha => exact ⟨_, rfl, .inl ⟨⟨_, .inl (.inl (g1.gh _ _ s))⟩, k _ G1 H1 _ n1 g1 b1 (wlk_list s ha) h1⟩⟩
      | tup s ha => exact ⟨_, rfl, .inr ⟨⟨_, sqt_mono g1.gh s⟩, k _ G1 H1 _ n1 g1 b1 (wlk_tup s ha) h1⟩⟩
      | _ => exact h1.elim⟩
omit [MSt S] in
/-- zip of two lists, of two tuples -/
def dZip (da db : DEt S) : DIt S := fun ε n P => da ε n fun x n1 => db ε n1 fun y n2 => match x, y with
  | .list xs, .list ys => P (List.zipWith (fun a b => PyData.tuple [a, b]) xs ys) n2
  | .tuple xs, .tuple ys => P (List.zipWith (fun a b => PyData.tuple [a, b]) xs ys) n2
  | _, _ => False
theorem zip_get {α β γ : Type} (f : α → β → γ) {xs : List α} {ys : List β} {i : Nat} {z : γ} (h : (List.zipWith f xs ys)[i]? = some z) : ∃ x y, xs[i]? = some x ∧ ys[i]? = some y ∧ z = f x y := by
  rw [List.getElem?_zipWith] at h
  cases hx : xs[i]? with
  | none =>
    rw [hx] at h
    simp at h
  | some x =>
    cases hy : ys[i]? with
    | none =>
      rw [hx, hy] at h
      simp at h
    | some y =>
      rw [hx, hy] at h
      simp at h
      exact ⟨x, y, rfl, rfl, h.symm⟩
theorem di_zip {elts : List Expr} {kk : Nat} {tpos : Pos} (hg : Gl X "zip") (hm : X.mg "zip" = none) (ha : DE K X a ta da) (hb : DE K X b tb db)
    (hpi : PI X (.Tuple elts kk tpos) (.Call (.Name "zip" p) [a, b] [] pos) (RZ.iZipA K (tCons ta (tCons tb tNil)))) (hK : X.K = K := by rfl) :
    DI K X (.Tuple elts kk tpos) (.Call (.Name "zip" p) [a, b] [] pos) (RZ.iZipA K (tCons ta (tCons tb tNil))) (dZip da db) := by
  subst hK
  exact ⟨hpi, fun bo G0 H0 σ H G ε n P R r hp k =>
    ha.se bo G0 H0 σ H G ε n _ _ r hp fun v G1 H1 d n1 g1 b1 p1 h1 => hb.se bo G0 H0 σ H1 G1 ε n1 _ _ (r.grow g1 b1) h1 fun w G2 H2 d2 n2 g2 b2 p2 h2 => by
      cases p1 with
      | @lst a xs ds s ha =>
        cases p2 with
        | @lst b ys es s' hb =>
          have sa : G2 a = some (.lst xs) := g2.gg _ _ s
          refine ⟨_, _, xs, ys, rfl, .inl ⟨.inl (.inl (g2.gh _ _ sa)), .inl (.inl (g2.gh _ _ s')), k _ G2 H2 _ n2 (g1.trans b1 g2) b2 (fun i G3 H3 s1 s2 => ⟨fun z hz => ?_, fun hl => ?_⟩) h2⟩⟩
          · obtain ⟨x, y, e1, e2, rfl⟩ := zip_get _ hz
            obtain ⟨vx, h1, h1'⟩ := dpa_get ha e1
            obtain ⟨vy, h2, h2'⟩ := dpa_get hb e2
            have qa : SqL X.K H3 a xs := .inl (.inl (s2 _ _ (s1 _ _ sa)))
            have qb : SqL X.K H3 b ys := .inl (.inl (s2 _ _ (s1 _ _ s')))
            refine ⟨⟨_, _, vx, vy, qa, qb, h1, h2⟩, fun q H' hq => ?_⟩
            obtain ⟨T, x1, y1, rfl, hT, rfl, f1, f2⟩ := hq
            have e1 := f1 _ qa
            have e2 := f2 _ qb
            rw [h1] at e1
            rw [h2] at e2
            cases e1
            cases e2
            exact ⟨_, Grow.into s2 hT, .tup (.inl (.inl upd_same)) (.cons (dp_mono ((g2.gg.trans s1).trans (same_new (s2.free hT))) h1') (.cons (dp_mono (s1.trans (same_new (s2.free hT))) h2') .nil))⟩
          · refine ⟨xs, ys, .inl (.inl (s2 _ _ (s1 _ _ sa))), .inl (.inl (s2 _ _ (s1 _ _ s'))), ?_⟩
            rw [dpa_len ha, dpa_len hb]
            rw [List.length_zipWith] at hl
            omega
        | _ => exact h2.elim
      | @tup a xs ds s ha =>
        cases p2 with
        | @tup b ys es s' hb =>
          have sa : SqT X.K G2 a xs := sqt_mono g2.gg s
          refine ⟨_, _, xs, ys, rfl, .inr ⟨sqt_mono g2.gh sa, sqt_mono g2.gh s', k _ G2 H2 _ n2 (g1.trans b1 g2) b2 (fun i G3 H3 s1 s2 => ⟨fun z hz => ?_, fun hl => ?_⟩) h2⟩⟩
          · obtain ⟨x, y, e1, e2, rfl⟩ := zip_get _ hz
            obtain ⟨vx, h1, h1'⟩ := dpa_get ha e1
            obtain ⟨vy, h2, h2'⟩ := dpa_get hb e2
            have qa : SqT X.K H3 a xs := sqt_mono s2 (sqt_mono s1 sa)
            have qb : SqT X.K H3 b ys := sqt_mono s2 (sqt_mono s1 s')
            refine ⟨⟨_, _, vx, vy, qa, qb, h1, h2⟩, fun q H' hq => ?_⟩
            obtain ⟨T, x1, y1, rfl, hT, rfl, f1, f2⟩ := hq
            have e1 := f1 _ qa
            have e2 := f2 _ qb
            rw [h1] at e1
            rw [h2] at e2
            cases e1
            cases e2
            exact ⟨_, Grow.into s2 hT, .tup (.inl (.inl upd_same)) (.cons (dp_mono ((g2.gg.trans s1).trans (same_new (s2.free hT))) h1') (.cons (dp_mono (s1.trans (same_new (s2.free hT))) h2') .nil))⟩
          · refine ⟨xs, ys, sqt_mono s2 (sqt_mono s1 sa), sqt_mono s2 (sqt_mono s1 s'), ?_⟩
            rw [dpa_len ha, dpa_len hb]
            rw [List.length_zipWith] at hl
            omega
        | _ => exact h2.elim
      | _ => cases p2 <;> exact h2.elim⟩
omit [MSt S] in
/-- enumerate of a list -/
def dEnum (da : DEt S) : DIt S := fun ε n P => da ε n fun x n1 => match x with
  | .list xs => P (xs.zipIdx.map fun q => PyData.tuple [.int (q.2 : Int), q.1]) n1
  | _ => False
theorem di_enum {elts : List Expr} {kk : Nat} {tpos : Pos} (ha : DE K X a ta da) (hpi : PI X (.Tuple elts kk tpos) (.Call (.Name "enumerate" p) [a] [] pos) (iEnum K (tCons ta tNil))) (hK : X.K = K := by rfl) :
    DI K X (.Tuple elts kk tpos) (.Call (.Name "enumerate" p) [a] [] pos) (iEnum K (tCons ta tNil)) (dEnum da) := by
  subst hK
  exact ⟨hpi, fun bo G0 H0 σ H G ε n P R r hp k =>
    ha.se bo G0 H0 σ H G ε n _ _ r hp fun v G1 H1 d n1 g1 b1 p1 h1 => by
      cases p1 with
      | @lst a xs ds s ha =>
        refine ⟨_, xs, rfl, .inl (.inl (g1.gh _ _ s)), k _ G1 H1 _ n1 g1 b1 (fun i G3 H3 s1 s2 => ⟨fun z hz => ?_, fun hl => ?_⟩) h1⟩
        · have qa : SqL X.K H3 a xs := .inl (.inl (s2 _ _ (s1 _ _ s)))
          rw [List.getElem?_map, List.getElem?_zipIdx] at hz
          cases hd : ds[i]? with
          | none =>
            rw [hd] at hz
            cases hz
          | some d =>
            rw [hd] at hz
            cases hz
            obtain ⟨vx, h1, h1'⟩ := dpa_get ha hd
            refine ⟨⟨_, vx, qa, h1⟩, fun q H' hq => ?_⟩
            obtain ⟨T, x1, rfl, hT, rfl, f1⟩ := hq
            have e1 := f1 _ qa
            rw [h1] at e1
            cases e1
            refine ⟨_, Grow.into s2 hT, .tup (.inl (.inl upd_same)) (.cons ?_ (.cons (dp_mono (s1.trans (same_new (s2.free hT))) h1') .nil))⟩
            rw [Nat.zero_add]
            exact .int _
        · refine ⟨xs, .inl (.inl (s2 _ _ (s1 _ _ s))), ?_⟩
          rw [dpa_len ha]
          simpa using hl
      | _ => exact h1.elim⟩
  
/-! ### + of ints, lists, tuples, texts -/
def fPlus : F2
  | .int i, .int j, C => C (.int (i + j))
  | .list xs, .list ys, C => xs.length + ys.length ≤ 100000 ∧ C (.list (xs ++ ys))
  | .tuple xs, .tuple ys, C => xs.length + ys.length ≤ 100000 ∧ C (.tuple (xs ++ ys))
  | .str x, .str y, C => x.length + y.length ≤ 100000 ∧ C (.str (x ++ y))
  | _, _, _ => False
def rPlus (K : PySem.W.Frag) : R2 := fun x y H Q => rI0 (fun i j => .int (i + j)) x y H Q ∨ (rCat x y H Q ∨ (rCatA K x y H Q ∨ ∃ i j, x = .str i ∧ y = .str j ∧ i.length + j.length ≤ sizeLine ∧ Q (.str (i ++ j)) H))
theorem op_plus : OpR X (binaryOp .Add) (rPlus X.K) := opr_or op_add (opr_or op_cat (opr_or op_catA op_add_str))
theorem ops_plus {K : PySem.W.Frag} : OpS K (rPlus K) fPlus := fun G H x y dx dy C Q s hx hy h k => by
  cases hx with
  | int i => cases hy with
    | int j => exact .inl ⟨i, j, rfl, rfl, k _ G H _ (Grow.refl s) (.int _) h⟩
    | _ => exact h.elim
  | @lst a xs ds ha hd => cases hy with
    | @lst b ys es hb he =>
      refine .inr (.inl ⟨a, b, xs, ys, rfl, rfl, s _ _ ha, s _ _ hb, sz (by rw [dpa_len hd, dpa_len he]; exact h.1), fun p hp => k _ _ _ _ (Grow.into s hp) (.lst upd_same (dpa_mono (same_new (s.free hp)) (dpa_cat hd he))) h.2⟩)
    | _ => exact h.elim
  | @tup a xs ds ha hd => cases hy with
    | @tup b ys es hb he =>
      refine .inr (.inr (.inl ⟨a, b, xs, ys, rfl, rfl, sqt_mono s ha, sqt_mono s hb, sz (by rw [dpa_len hd, dpa_len he]; exact h.1), fun e => ?_, fun _ e => ?_, fun _ _ p hp => ?_⟩))
      · subst e
        cases hd
        exact k _ G H _ (Grow.refl s) (.tup hb he) h.2
      · subst e
        cases he
        have h2 := h.2
        rw [List.append_nil] at h2
        exact k _ G H _ (Grow.refl s) (.tup ha hd) h2
      · exact k _ _ _ _ (Grow.into s hp) (.tup (.inl (.inl upd_same)) (dpa_mono (same_new (s.free hp)) (dpa_cat hd he))) h.2
    | _ => exact h.elim
  | str i => cases hy with
    | str j => exact .inr (.inr (.inr ⟨i, j, rfl, rfl, sz h.1, k _ G H _ (Grow.refl s) (.str _) h.2⟩))
    | _ => exact h.elim
  | _ => cases hy <;> exact h.elim
theorem de_plus (ha : DE K X a ta da) (hb : DE K X b tb db) (hK : X.K = K := by rfl) : DE K X (.BinOp a .Add b pos) (tOp (rPlus K) ta tb) (dOp fPlus da db) := by
  subst hK
  exact de_op op_plus ops_plus ha hb
/-! ### * of ints, of a list and an int -/
def fTimes : F2
  | .int i, .int j, C => CMul i j ∧ C (.int (i * j))
  | .list xs, .int j, C => 0 ≤ j ∧ j ≤ 100000 ∧ xs.length * j.toNat ≤ 100000 ∧ C (.list (List.replicate j.toNat xs).flatten)
  | _, _, _ => False
def rTimes : R2 := fun x y H Q => rI CMul (fun i j => .int (i * j)) x y H Q ∨ rRep x y H Q
theorem dpa_rep {K : PySem.W.Frag} {G : Hp} {vs : List V} {ds : List PyData} (h : DpAll K G vs ds) : ∀ n : Nat, DpAll K G (List.replicate n vs).flatten (List.replicate n ds).flatten
  | 0 => .nil
  | n + 1 => by
    rw [List.replicate_succ, List.replicate_succ, List.flatten_cons, List.flatten_cons]
    exact dpa_cat h (dpa_rep h n)
theorem de_times (ha : DE K X a ta da) (hb : DE K X b tb db) (hK : X.K = K := by rfl) : DE K X (.BinOp a .Mult b pos) (tOp rTimes ta tb) (dOp fTimes da db) := by
  subst hK
  exact de_op (opr_or op_mul op_rep) (fun G H x y dx dy C Q s hx hy h k => by
    cases hx with
    | int i => cases hy with
      | int j => exact .inl ⟨i, j, rfl, rfl, h.1, k _ G H _ (Grow.refl s) (.int _) h.2⟩
      | _ => exact h.elim
    | @lst a xs ds ha hd => cases hy with
      | int j =>
        obtain ⟨h0, h1, h2, h3⟩ := h
        exact .inr ⟨a, j, xs, rfl, rfl, s _ _ ha, by omega, by omega, sz (by rw [dpa_len hd]; exact h2), fun p hp => k _ _ _ _ (Grow.into s hp) (.lst upd_same (dpa_mono (same_new (s.free hp)) (dpa_rep hd _))) h3⟩
      | _ => exact h.elim
    | _ => cases hy <;> exact h.elim) ha hb
omit [MSt S] in
/-- a new list: list * int -/
def dRepF (dq : DQt S) (db : DEt S) : DFt S := fun ε n P => dq ε n fun k ds n1 => db ε n1 fun j n2 => match j with | .int j => k = false ∧ 0 ≤ j ∧ j ≤ 100000 ∧ ds.length * j.toNat ≤ 100000 ∧ P (List.replicate j.toNat ds).flatten n2 | _ => False
theorem df_rep (ha : DQ K X a ta dq) (hb : DE K X b tb db) (hK : X.K = K := by rfl) : DF K X (.BinOp a .Mult b pos) (tOp rRep ta tb) (dRepF dq db) := by
  subst hK
  exact ⟨pe_op op_rep ha.pe hb.pe, fun bo G0 H0 σ H G ε n P Q R hp k =>
    ha.se bo G0 H0 σ H G ε n _ _ R hp fun a vs G1 H1 kk ds n1 g1 b1 hbo sq hd h1 =>
    hb.se bo G0 H0 σ H1 G1 ε n1 _ _ (R.grow g1 b1) h1 fun v G2 H2 d n2 g2 b2 p2 h2 => by
      cases p2 with
      | int j =>
        obtain ⟨rfl, h0, h1, h2', h3⟩ := h2
        have g12 := g1.trans b1 g2
        exact ⟨a, j, vs, rfl, rfl, g2.kp a _ (hbo rfl) sq, by omega, by omega, sz (by rw [dpa_len hd]; exact h2'), fun p hp =>
          k p _ G2 _ _ n2 (g12.trans b2 (Grow.out g2.gh hp)) (b2.grow (Grow.out (G := G2) g2.gh hp)) (g12.back b2 hp) (g2.gh.free hp) upd_same (dpa_rep (dpa_mono g2.gg hd) _) h3⟩
      | _ => exact h2.elim⟩
  
/-! ### slices -/
def cutD (xs : List PyData) (lo hi : Option Int) : List PyData := (xs.drop (HT.sIx xs.length 0 lo)).take (HT.sIx xs.length xs.length hi - HT.sIx xs.length 0 lo)
theorem dpa_cut {K : PySem.W.Frag} {G : Hp} {vs : List V} {ds : List PyData} (h : DpAll K G vs ds) (lo hi : Option Int) : DpAll K G (cutV vs lo hi) (cutD ds lo hi) := by
  unfold cutV cutD
  rw [dpa_len h]
  exact dpa_take _ (dpa_drop _ h)
theorem cut_all {ds : List PyData} {lo hi : Option Int} (h : HT.sIx ds.length 0 lo = 0 ∧ HT.sIx ds.length ds.length hi = ds.length) : cutD ds lo hi = ds := by
  unfold cutD
  rw [h.1, h.2, Nat.sub_zero, List.drop_zero, List.take_length]
abbrev DOt (S : Type) := En → S → (Option Int → S → Prop) → Prop
structure DO (K : PySem.W.Frag) (X : Cx) (e : Option Expr) (to : TO) (do_ : DOt S) : Prop where
  po : PO X e to
  so : ∀ (bo : Option Bo) (G0 H0 : Hp) (σ : L2.St) (H G : Hp) (ε : En) (n : S) (P : Option Int → S → Prop) (Q : Option Int → Hp → Prop), Rl K bo G0 H0 σ H G ε n → do_ ε n P → (∀ o G' H' n', Grow bo G H G' H' → BoxO K G' H' bo n' → P o n' → Q o H') → to σ H Q
omit [MSt S] in
def dNoP : DOt S := fun _ n P => P none n
omit [MSt S] in
def dPt (de : DEt S) : DOt S := fun ε n P => de ε n fun d n1 => match d with | .int i => P (some i) n1 | _ => False
theorem do_none (hK : X.K = K := by rfl) : DO K X none tNoPart (dNoP (S := S)) := by
  subst hK
  exact ⟨po_none, fun bo G0 H0 σ H G ε n P Q R hp k => k none G H n (Grow.refl R.gh) R.bx hp⟩
theorem do_some (h : DE K X e te de) (hK : X.K = K := by rfl) : DO K X (some e) (tPart te) (dPt de) := by
  subst hK
  exact ⟨po_some h.pe, fun bo G0 H0 σ H G ε n P Q R hp k => h.se bo G0 H0 σ H G ε n _ _ R hp fun v G1 H1 d n1 g1 b1 p1 h1 => by
    cases p1 with
    | int i => exact ⟨i, rfl, k _ G1 H1 n1 g1 b1 h1⟩
    | _ => exact h1.elim⟩
def rCut (K : PySem.W.Frag) : V → Option Int → Option Int → Hp → VK → Prop := fun x lo hi H Q => rSlL K x lo hi H Q ∨ rSlA K x lo hi H Q
omit [MSt S] in
def dCut (dq : DQt S) (dl dh : DOt S) : DEt S := fun ε n P => dq ε n fun k ds n1 => dl ε n1 fun lo n2 => dh ε n2 fun hi n3 => P (if k then .tuple (cutD ds lo hi) else .list (cutD ds lo hi)) n3
theorem de_slice {lo hi : Option Expr} {tl th : TO} {dl dh : DOt S} {p2 : Pos} (ha : DQ K X a ta dq) (hl : DO K X lo tl dl) (hh : DO K X hi th dh) (hK : X.K = K := by rfl) : DE K X (.Subscript a (.Slice lo hi none p2) pos) (tSl (rCut K) ta tl th) (dCut dq dl dh) := by
  subst hK
  exact ⟨pe_slice (sl_list.or sl_tupA) ha.pe hl.po hh.po, fun bo G0 H0 σ H G ε n P Q R hp k =>
    ha.se bo G0 H0 σ H G ε n _ _ R hp fun a vs G1 H1 kk ds n1 g1 b1 hbo sq hd h1 =>
    hl.so bo G0 H0 σ H1 G1 ε n1 _ _ (R.grow g1 b1) h1 fun lo G2 H2 n2 g2 b2 h2 =>
    hh.so bo G0 H0 σ H2 G2 ε n2 _ _ ((R.grow g1 b1).grow g2 b2) h2 fun hi G3 H3 n3 g3 b3 h3 => by
      have g12 := g1.trans b1 g2
      have g123 := g12.trans b2 g3
      have hd3 := dpa_mono (g2.gg.trans g3.gg) hd
      cases kk with
      | true =>
        have sq3 : SqT X.K G3 a vs := sqt_mono (g2.gg.trans g3.gg) sq
        refine .inr ⟨a, vs, rfl, sqt_mono g3.gh sq3, fun e => ?_, fun _ p hp => ?_⟩
        · rw [dpa_len hd] at e
          refine k _ G3 H3 _ n3 g123 b3 (.tup sq3 hd3) ?_
          rw [if_pos rfl, cut_all e] at h3
          exact h3
        · exact k _ _ _ _ n3 (g123.trans b3 (Grow.into g3.gh hp)) (b3.grow (Grow.into (G := G3) g3.gh hp)) (.tup (.inl (.inl upd_same)) (dpa_mono (same_new (g3.gh.free hp)) (dpa_cut hd3 lo hi))) h3
      | false =>
        exact .inl ⟨a, vs, rfl, .inl (.inl (g3.kp a _ (hbo rfl) (g2.kp a _ (hbo rfl) sq))), fun p hp =>
          k _ _ _ _ n3 (g123.trans b3 (Grow.into g3.gh hp)) (b3.grow (Grow.into (G := G3) g3.gh hp)) (.lst upd_same (dpa_mono (same_new (g3.gh.free hp)) (dpa_cut hd3 lo hi))) h3⟩⟩
omit [MSt S] in
/-- xs[::-1] of a list -/
def dRev (dq : DQt S) : DFt S := fun ε n P => dq ε n fun k ds n1 => k = false ∧ P ds.reverse n1
theorem df_rev {k : Nat} {p1 p2 p3 : Pos} (ha : DQ K X a ta dq) (hK : X.K = K := by rfl) : DF K X (.Subscript a (.Slice none none (some (.UnaryOp .USub (.Constant (.int 1) k p1) p2)) p3) pos) (tRevL K ta) (dRev dq) := by
  subst hK
  exact ⟨pe_revL ha.pe, fun bo G0 H0 σ H G ε n P Q R hp k =>
    ha.se bo G0 H0 σ H G ε n _ _ R hp fun a vs G1 H1 kk ds n1 g1 b1 hbo sq hd h1 => by
      obtain ⟨rfl, h1⟩ := h1
      exact ⟨a, vs, rfl, .inl (.inl sq), fun p hp => k p _ G1 _ _ n1 (g1.trans b1 (Grow.out g1.gh hp)) (b1.grow (Grow.out (G := G1) g1.gh hp)) (g1.back b1 hp) (g1.gh.free hp) upd_same (dpa_rev hd) h1⟩⟩
  
/-! ### in, not in -/
def vD : PyData → Option V
  | .none => some .non
  | .bool b => some (.bl b)
  | .int i => some (.int i)
  | .str x => some (.str x)
  | _ => none
def vDs : List PyData → Option (List V)
  | [] => some []
  | d :: r => (vD d).bind fun v => (vDs r).map (v :: ·)
theorem vD_of {K : PySem.W.Frag} {G : Hp} {x v : V} {d : PyData} (h : Dp K G x d) (e : vD d = some v) : x = v ∧ flatV x = true := by
  cases h with
  | non => cases e; exact ⟨rfl, rfl⟩
  | bl b => cases e; exact ⟨rfl, rfl⟩
  | int b => cases e; exact ⟨rfl, rfl⟩
  | str b => cases e; exact ⟨rfl, rfl⟩
  | _ => cases e
theorem vDs_of {K : PySem.W.Frag} {G : Hp} : ∀ {xs vs : List V} {ds : List PyData}, DpAll K G xs ds → vDs ds = some vs → xs = vs ∧ xs.all flatV = true
  | _, _, [], .nil, e => by
    cases e
    exact ⟨rfl, rfl⟩
  | _, _, d :: r, .cons h t, e => by
    simp only [vDs] at e
    cases q : vD d with
    | none =>
      rw [q] at e
      cases e
    | some v =>
      rw [q] at e
      cases q2 : vDs r with
      | none =>
        rw [q2] at e
        cases e
      | some ws =>
        rw [q2] at e
        cases e
        obtain ⟨rfl, f1⟩ := vD_of h q
        obtain ⟨rfl, f2⟩ := vDs_of t q2
        exact ⟨rfl, by rw [List.all_cons, f1, f2]; rfl⟩
omit [MSt S] in
def dIn (neg : Bool) (da : DEt S) (dq : DQt S) : DEt S := fun ε n P => da ε n fun x n1 => dq ε n1 fun _ ds n2 => ∃ v vs, vD x = some v ∧ vDs ds = some vs ∧ P (.bool (if neg then !inV v vs else inV v vs)) n2
theorem se_in {K : PySem.W.Frag} (neg : Bool) (ha : SE K ta da) (hb : SQ K tb dq) : SE K (tOp (rIn K neg) ta tb) (dIn neg da dq) := fun bo G0 H0 σ H G ε n P Q R hp k =>
  ha bo G0 H0 σ H G ε n _ _ R hp fun x G1 H1 dx n1 g1 b1 p1 h1 => hb bo G0 H0 σ H1 G1 ε n1 _ _ (R.grow g1 b1) h1 fun a vs G2 H2 kk ds n2 g2 b2 hbo sq hd h2 => by
    obtain ⟨v, ws, e1, e2, h2⟩ := h2
    obtain ⟨rfl, f1⟩ := vD_of p1 e1
    obtain ⟨rfl, f2⟩ := vDs_of hd e2
    exact ⟨a, vs, rfl, sq.lt g2.gh, f1, f2, k _ G2 H2 _ n2 (g1.trans b1 g2) b2 (.bl _) h2⟩
theorem de_in (ha : DE K X a ta da) (hb : DQ K X b tb dq) (hm : behindInMarks .In b = false := by rfl) (hK : X.K = K := by rfl) : DE K X (.Compare a [.In] [b] pos) (tOp (rIn K false) ta tb) (dIn false da dq) := by
  subst hK
  exact ⟨pe_cmpR op_in_seq ha.pe hb.pe hm, se_in false ha.se hb.se⟩
theorem de_notIn (ha : DE K X a ta da) (hb : DQ K X b tb dq) (hm : behindInMarks .NotIn b = false := by rfl) (hK : X.K = K := by rfl) : DE K X (.Compare a [.NotIn] [b] pos) (tOp (rIn K true) ta tb) (dIn true da dq) := by
  subst hK
  exact ⟨pe_cmpR op_notIn_seq ha.pe hb.pe hm, se_in true ha.se hb.se⟩
theorem vDs_int : ∀ ns : List Int, vDs (ns.map PyData.int) = some (ns.map V.int)
  | [] => rfl
  | n :: r => by
    show (some (V.int n)).bind (fun v => (vDs (r.map PyData.int)).map (v :: ·)) = _
    rw [vDs_int r]
    rfl
theorem inV_int (i : Int) : ∀ ns : List Int, inV (.int i) (ns.map V.int) = decide (i ∈ ns)
  | [] => rfl
  | n :: r => by
    show (eqV (.int n) (.int i) || inV (.int i) (r.map V.int)) = _
    rw [inV_int i r]
    show ((n == i) || decide (i ∈ r)) = _
    by_cases e : n = i
    · subst e
      simp
    · have e' : i ≠ n := fun z => e z.symm
      simp [e, e']

/-! ### isinstance -/
def tyD : PyData → String
  | .none => "NoneType"
  | .bool _ => "bool"
  | .int _ => "int"
  | .str _ => "str"
  | .list _ => "list"
  | .tuple _ => "tuple"
  | .dict _ => "dict"
theorem tyX_of {K : PySem.W.Frag} {H : Hp} {x : V} {d : PyData} (h : Dp K H x d) : TyX K H x (.type (tyD d)) := by
  cases h with
  | non => exact .base .non
  | bl b => exact .base (.bl b)
  | int b => exact .base (.int b)
  | str b => exact .base (.str b)
  | lst s _ => exact .base (.lst s)
  | tup s _ =>
    rcases s with (s | ⟨o, s⟩) | ⟨o, its, n, s, c, _⟩
    · exact .base (.tup s)
    · exact .fTuple s
    · exact .kTuple s c
/-- which kinds an isinstance of T takes -/
def isIntD : PyData → Bool
  | .int _ => true
  | .bool _ => true
  | _ => false
def isBoolD : PyData → Bool
  | .bool _ => true
  | _ => false
def isStrD : PyData → Bool
  | .str _ => true
  | _ => false
def isListD : PyData → Bool
  | .list _ => true
  | _ => false
def isTupD : PyData → Bool
  | .tuple _ => true
  | _ => false
omit [MSt S] in
def dIsi (f : PyData → Bool) (da : DEt S) : DEt S := fun ε n P => da ε n fun x n1 => P (.bool (f x)) n1
theorem kit_int (d : PyData) : kitB (tyD d) "int" = some (isIntD d) := by
  cases d <;> first | exact (by decide +kernel : kitB "NoneType" "int" = some false) | exact (by decide +kernel : kitB "bool" "int" = some true) | exact (by decide +kernel : kitB "int" "int" = some true) | exact (by decide +kernel : kitB "str" "int" = some false) | exact (by decide +kernel : kitB "list" "int" = some false) | exact (by decide +kernel : kitB "tuple" "int" = some false) | exact (by decide +kernel : kitB "dict" "int" = some false)
theorem kit_bool (d : PyData) : kitB (tyD d) "bool" = some (isBoolD d) := by
  cases d <;> first | exact (by decide +kernel : kitB "NoneType" "bool" = some false) | exact (by decide +kernel : kitB "bool" "bool" = some true) | exact (by decide +kernel : kitB "int" "bool" = some false) | exact (by decide +kernel : kitB "str" "bool" = some false) | exact (by decide +kernel : kitB "list" "bool" = some false) | exact (by decide +kernel : kitB "tuple" "bool" = some false) | exact (by decide +kernel : kitB "dict" "bool" = some false)
theorem kit_str (d : PyData) : kitB (tyD d) "str" = some (isStrD d) := by
  cases d <;> first | exact (by decide +kernel : kitB "NoneType" "str" = some false) | exact (by decide +kernel : kitB "bool" "str" = some false) | exact (by decide +kernel : kitB "int" "str" = some false) | exact (by decide +kernel : kitB "str" "str" = some true) | exact (by decide +kernel : kitB "list" "str" = some false) | exact (by decide +kernel : kitB "tuple" "str" = some false) | exact (by decide +kernel : kitB "dict" "str" = some false)
theorem kit_list (d : PyData) : kitB (tyD d) "list" = some (isListD d) := by
  cases d <;> first | exact (by decide +kernel : kitB "NoneType" "list" = some false) | exact (by decide +kernel : kitB "bool" "list" = some false) | exact (by decide +kernel : kitB "int" "list" = some false) | exact (by decide +kernel : kitB "str" "list" = some false) | exact (by decide +kernel : kitB "list" "list" = some true) | exact (by decide +kernel : kitB "tuple" "list" = some false) | exact (by decide +kernel : kitB "dict" "list" = some false)
theorem kit_tuple (d : PyData) : kitB (tyD d) "tuple" = some (isTupD d) := by
  cases d <;> first | exact (by decide +kernel : kitB "NoneType" "tuple" = some false) | exact (by decide +kernel : kitB "bool" "tuple" = some false) | exact (by decide +kernel : kitB "int" "tuple" = some false) | exact (by decide +kernel : kitB "str" "tuple" = some false) | exact (by decide +kernel : kitB "list" "tuple" = some false) | exact (by decide +kernel : kitB "tuple" "tuple" = some true) | exact (by decide +kernel : kitB "dict" "tuple" = some false)
theorem de_isi {p1 : Pos} {T : String} {x : Str} {f : PyData → Bool} (hT : ∀ d, kitB (tyD d) T = some (f d)) (hg : Gl X "isinstance") (hm : X.mg "isinstance" = none) (hg2 : Gl X x) (hm2 : X.mg x = none) (hv : bootBuiltins x = some (.type T)) (h : DE K X a ta da)
    (hx : x ≠ "__name__" := by decide) (hxd : (x == ("__debug__" : Str)) = false := by decide) (he : starEach (a :: [.Name x p1]) X.env = (false, eval a X.env) :: starEach [.Name x p1] X.env := by rfl) (he2 : starEach (.Name x p1 :: []) X.env = (false, eval (.Name x p1) X.env) :: starEach [] X.env := by rfl)
    (hpl : (backTo pos (starEach [.Name x p1] X.env)).any (·.1) = false := by rfl) (hK : X.K = K := by rfl) : DE K X (.Call (.Name "isinstance" p) [a, .Name x p1] [] pos) (tCB (rIsi K) (tCons ta (tCons (tC (.ty T)) tNil))) (dIsi f da) := by
  subst hK
  exact ⟨pe_callB call_isi hg hm boot_isinstance (pa_cons h.pe (pa_cons (pe_bltn hg2 hm2 hv rfl hx hxd) pa_nil he2) he) (by decide) (by decide) he hpl, fun bo G0 H0 σ H G ε n P Q R hp k =>
      h.se bo G0 H0 σ H G ε n _ _ R hp fun v G1 H1 d n1 g1 b1 p1 h1 => ⟨v, .ty T, _, _, f d, rfl, .ty T, tyX_of (dp_mono g1.gh p1), kit_ty (hT d), k _ G1 H1 _ n1 g1 b1 (.bl _) h1⟩⟩
/-! ### ranges -/
theorem rgV_0 (j : Int) : rgV 0 j = (rgD j.toNat).map fun d => match d with | .int i => V.int i | _ => V.non := by
  unfold rgV rgD
  rw [List.map_map, Int.sub_zero]
  refine List.map_congr_left fun i _ => ?_
  show V.int (0 + (i : Int)) = V.int (i : Int)
  rw [Int.zero_add]
theorem rgd_all {K : PySem.W.Frag} {G : Hp} (j : Int) : DpAll K G (rgV 0 j) (rgD j.toNat) := by
  have : ∀ l : List Nat, DpAll K G (l.map fun (i : Nat) => V.int (0 + (i : Nat))) (l.map fun (i : Nat) => PyData.int (i : Int)) := fun l => by
    induction l with
    | nil => exact .nil
    | cons i r ih =>
      refine .cons ?_ ih
      show Dp K G (V.int (0 + (i : Int))) (PyData.int (i : Int))
      rw [Int.zero_add]
      exact .int _
  unfold rgV rgD
  rw [Int.sub_zero]
  exact this _
theorem df_listRg {p' pos' : Pos} (hc : X.calm = true) (hg : Gl X "list") (hm : X.mg "list" = none) (hg2 : Gl X "range") (hm2 : X.mg "range" = none) (h : DE K X a ta da) (na : starEach [a] X.env = (false, eval a X.env) :: starEach [] X.env := by rfl)
    (nb : starEach [.Call (.Name "range" p') [a] [] pos'] X.env = (false, eval (.Call (.Name "range" p') [a] [] pos') X.env) :: starEach [] X.env := by rfl) (hK : X.K = K := by rfl) : DF K X (.Call (.Name "list" p) [.Call (.Name "range" p') [a] [] pos'] [] pos) (tLstRg (tRg1 ta)) (dRgL da) := by
  subst hK
  exact ⟨pe_listRg hc hg hm (prg_1 hg2 hm2 h.pe na) nb, fun bo G0 H0 σ H G ε n P Q R hp k => h.se bo G0 H0 σ H G ε n _ _ R hp fun v G1 H1 d n1 g1 b1 p1 h1 => by
      cases p1 with
      | int j => exact ⟨j, rfl, ⟨by omega, by omega, by omega, by omega, by omega⟩, fun p hp => k p _ G1 _ _ n1 (g1.trans b1 (Grow.out g1.gh hp)) (b1.grow (Grow.out (G := G1) g1.gh hp)) (g1.back b1 hp) (g1.gh.free hp) upd_same (rgd_all j) h1.2.2⟩
      | _ => exact h1.elim⟩
theorem de_tupRg {p' pos' : Pos} (hc : X.calm = true) (hg : Gl X "tuple") (hm : X.mg "tuple" = none) (hg2 : Gl X "range") (hm2 : X.mg "range" = none) (h : DE K X a ta da) (na : starEach [a] X.env = (false, eval a X.env) :: starEach [] X.env := by rfl)
    (nb : starEach [.Call (.Name "range" p') [a] [] pos'] X.env = (false, eval (.Call (.Name "range" p') [a] [] pos') X.env) :: starEach [] X.env := by rfl) (hK : X.K = K := by rfl) : DE K X (.Call (.Name "tuple" p) [.Call (.Name "range" p') [a] [] pos'] [] pos) (tTupRg (tRg1 ta)) (dRgT da) := by
  subst hK
  exact ⟨pe_tupRg hc hg hm (prg_1 hg2 hm2 h.pe na) nb, fun bo G0 H0 σ H G ε n P Q R hp k => h.se bo G0 H0 σ H G ε n _ _ R hp fun v G1 H1 d n1 g1 b1 p1 h1 => by
      cases p1 with
      | int j => exact ⟨j, rfl, ⟨by omega, by omega, by omega, by omega, by omega⟩, fun p hp => k _ _ _ _ n1 (g1.trans b1 (Grow.into g1.gh hp)) (b1.grow (Grow.into (G := G1) g1.gh hp)) (.tup (.inl (.inl upd_same)) (rgd_all j)) h1.2.2⟩
      | _ => exact h1.elim⟩
end
end DL

set_option Elab.async false
set_option linter.all false
set_option autoImplicit false
set_option maxRecDepth 100000
namespace DL
open PySem PySem.Spec PyProof.Rows L2
variable {S : Type} [MSt S]
section
variable {X : Cx} {K : PySem.W.Frag} {tg e a b c : Expr} {te ta tb tc : TE} {de da db dc : DEt S} {dq : DQt S} {p pos : Pos}
/-! -a -/
omit [MSt S] in
def dNeg (da : DEt S) : DEt S := fun ε n P => da ε n fun x n1 => match x with | .int i => P (.int (-i)) n1 | _ => False
theorem de_neg (h : DE K X a ta da) (hK : X.K = K := by rfl) : DE K X (.UnaryOp .USub a pos) (tUn (rU fun i => .int (-i)) ta) (dNeg da) := by
  subst hK
  exact ⟨pe_un un_neg h.pe, fun bo G0 H0 σ H G ε n P Q R hp k => h.se bo G0 H0 σ H G ε n _ _ R hp fun v G1 H1 d n1 g1 b1 p1 h1 => by
    cases p1 with
    | int i => exact ⟨i, rfl, k _ G1 H1 _ n1 g1 b1 (.int _) h1⟩
    | _ => exact h1.elim⟩
/-! chains -/
omit [MSt S] in
def dChain (F F' : F2) (da db dc : DEt S) : DEt S := fun ε n P => da ε n fun x n1 => db ε n1 fun y n2 => F x y fun z => ∃ k, z = .bool k ∧ (if k = true then dc ε n2 fun w n3 => F' y w fun z' => P z' n3 else P (.bool false) n2)
theorem de_chain {op op' : CmpOp} {r r' : R2} {F F' : F2} (ho : OpR X (compareOp op) r) (ho' : OpR X (compareOp op') r') (hs : OpS K r F) (hs' : OpS K r' F') (ha : DE K X a ta da) (hb : DE K X b tb db) (hc : DE K X c tc dc)
    (hm : lastMarks [op, op'] [b, c] = false := by with_unfolding_all rfl) (hK : X.K = K := by rfl) : DE K X (.Compare a [op, op'] [b, c] pos) (tChain r r' ta tb tc) (dChain F F' da db dc) := by
  subst hK
  exact ⟨pe_chain ho ho' ha.pe hb.pe hc.pe hm, fun bo G0 H0 σ H G ε n P Q R hp k =>
    ha.se bo G0 H0 σ H G ε n _ _ R hp fun x G1 H1 dx n1 g1 b1 p1 h1 => hb.se bo G0 H0 σ H1 G1 ε n1 _ _ (R.grow g1 b1) h1 fun y G2 H2 dy n2 g2 b2 p2 h2 =>
    hs G2 H2 x y dx dy _ _ g2.gh (dp_mono g2.gg p1) p2 h2 fun v G3 H3 d g3 p3 h3 => by
      obtain ⟨kk, rfl, h3⟩ := h3
      cases p3
      have g23 := (g1.trans b1 g2).trans b2 (g3.any (bo := bo))
      have b3 := b2.grow g3
      refine ⟨kk, rfl, ?_⟩
      cases kk with
      | true =>
        refine hc.se bo G0 H0 σ H3 G3 ε n2 _ _ (R.grow g23 b3) h3 (fun z G4 H4 dz n4 g4 b4 p4 h4 => ?_)
        refine hs' G4 H4 y z dy dz _ _ g4.gh (dp_mono (g3.gg.trans g4.gg) p2) p4 h4 (fun v5 G5 H5 d5 g5 p5 h5 => ?_)
        exact k v5 G5 H5 d5 n4 ((g23.trans b3 g4).trans b4 g5.any) (b4.grow g5) p5 h5
      | false => exact k _ G3 H3 _ n2 g23 b3 (.bl _) h3⟩
theorem de_chainI {op op' : CmpOp} {g g' : Int → Int → V} {f f' : Int → Int → PyData} (ho : OpR X (compareOp op) (rI0 g)) (ho' : OpR X (compareOp op') (rI0 g')) (hg : ∀ i j G, Dp K G (g i j) (f i j)) (hg' : ∀ i j G, Dp K G (g' i j) (f' i j)) (ha : DE K X a ta da) (hb : DE K X b tb db) (hc : DE K X c tc dc)
    (hm : lastMarks [op, op'] [b, c] = false := by with_unfolding_all rfl) (hK : X.K = K := by rfl) : DE K X (.Compare a [op, op'] [b, c] pos) (tChain (rI0 g) (rI0 g') ta tb tc) (dChain (fN f) (fN f') da db dc) := by
  subst hK
  exact de_chain ho ho' (ops_I0 hg) (ops_I0 hg') ha hb hc hm
/-! truth -/
def truD : PyData → Option Bool
  | .none => some false
  | .bool b => some b
  | .int i => some (i != 0)
  | .list ds => some (!ds.isEmpty)
  | .tuple ds => some (!ds.isEmpty)
  | _ => none
omit [MSt S] in
def dTru (de : DEt S) : DTt S := fun ε n P => de ε n fun d n1 => match truD d with | some b => P b n1 | none => False
theorem emp_of {K : PySem.W.Frag} {G : Hp} {vs : List V} {ds : List PyData} (h : DpAll K G vs ds) : (!ds.isEmpty) = !vs.isEmpty := by cases h <;> rfl
theorem dt_truth (h : DE K X e te de) (he : ∀ whole, isTrue e X.env whole = (do let v ← whole; standAt e.pos; holding [v] (truthy v)) := by intro _; rfl) (hK : X.K = K := by rfl) : DT K X e (fun σ H Q => te σ H fun x H' => ∃ k, TruV K x H' k ∧ Q k H') (dTru de) := by
  subst hK
  exact ⟨pt_truth h.pe he, fun bo G0 H0 σ H G ε n P Q R hp k => h.se bo G0 H0 σ H G ε n _ _ R hp fun v G1 H1 d n1 g1 b1 p1 h1 => by
      cases p1 with
      | non => exact ⟨_, rfl, k _ G1 H1 n1 g1 b1 h1⟩
      | bl b => exact ⟨_, rfl, k _ G1 H1 n1 g1 b1 h1⟩
      | int i => exact ⟨_, rfl, k _ G1 H1 n1 g1 b1 h1⟩
      | str x => exact h1.elim
      | @lst a xs ds s ha =>
        refine ⟨_, .inl ⟨xs, .inl (.inl (g1.gh _ _ s)), rfl⟩, k _ G1 H1 n1 g1 b1 ?_⟩
        rw [← emp_of ha]
        exact h1
      | @tup a xs ds s ha =>
        refine ⟨_, .inr (.inl ⟨xs, sqt_mono g1.gh s, rfl⟩), k _ G1 H1 n1 g1 b1 ?_⟩
        rw [← emp_of ha]
        exact h1⟩
/-! isinstance(x, (T1, T2)) -/
theorem de_isi2 {p1 p2 tp : Pos} {kt : Nat} {T U : String} {x y : Str} {f g : PyData → Bool} (hT : ∀ d, kitB (tyD d) T = some (f d)) (hU : ∀ d, kitB (tyD d) U = some (g d)) (hg : Gl X "isinstance") (hm : X.mg "isinstance" = none) (hg2 : Gl X x) (hm2 : X.mg x = none) (hv : bootBuiltins x = some (.type T))
    (hg3 : Gl X y) (hm3 : X.mg y = none) (hv3 : bootBuiltins y = some (.type U)) (h : DE K X a ta da)
    (hx : x ≠ "__name__" := by decide) (hxd : (x == ("__debug__" : Str)) = false := by decide) (hy : y ≠ "__name__" := by decide) (hyd : (y == ("__debug__" : Str)) = false := by decide)
    (he : starEach (a :: [.Tuple [.Name x p1, .Name y p2] kt tp]) X.env = (false, eval a X.env) :: starEach [.Tuple [.Name x p1, .Name y p2] kt tp] X.env := by rfl) (he2 : starEach (.Tuple [.Name x p1, .Name y p2] kt tp :: []) X.env = (false, eval (.Tuple [.Name x p1, .Name y p2] kt tp) X.env) :: starEach [] X.env := by rfl)
    (he3 : starEach (.Name x p1 :: [.Name y p2]) X.env = (false, eval (.Name x p1) X.env) :: starEach [.Name y p2] X.env := by rfl) (he4 : starEach (.Name y p2 :: []) X.env = (false, eval (.Name y p2) X.env) :: starEach [] X.env := by rfl)
    (hpl : (backTo pos (starEach [.Tuple [.Name x p1, .Name y p2] kt tp] X.env)).any (·.1) = false := by rfl) (hK : X.K = K := by rfl) :
    DE K X (.Call (.Name "isinstance" p) [a, .Tuple [.Name x p1, .Name y p2] kt tp] [] pos) (tCB (rIsiT K) (tCons ta (tCons (tTup (tCons (tC (.ty T)) (tCons (tC (.ty U)) tNil))) tNil))) (dIsi (fun d => f d || g d) da) := by
  subst hK
  exact ⟨pe_callB call_isiT hg hm boot_isinstance (pa_cons h.pe (pa_cons (pe_tup (pa_cons (pe_bltn hg2 hm2 hv rfl hx hxd) (pa_cons (pe_bltn hg3 hm3 hv3 rfl hy hyd) pa_nil he4) he3)) pa_nil he2) he) (by decide) (by decide) he hpl, fun bo G0 H0 σ H G ε n P Q R hp k =>
      h.se bo G0 H0 σ H G ε n _ _ R hp fun v G1 H1 d n1 g1 b1 p1 h1 => by
        refine ⟨by show 2 ≤ sizeLine; decide, fun q hq => ?_⟩
        have g2 := Grow.out (bo := none) (o := HO.tup [V.ty T, V.ty U]) g1.gh hq
        refine ⟨v, q, [.ty T, .ty U], _, [.type T, .type U], (f d || g d), rfl, upd_same, .cons (.ty T) (.cons (.ty U) .nil), tyX_of (dp_mono g2.gh p1), kitAny_cons (kit_ty (hT d)) (fun e => kitAny_cons (b := g d) (kit_ty (hU d)) (fun e2 => ?_) (fun e2 => ?_)) (fun e => ?_), ?_⟩
        · rw [e, e2]
          rfl
        · rw [e2]
          cases f d <;> rfl
        · rw [e]
          rfl
        · exact k _ G1 _ _ n1 (g1.trans b1 g2.any) (b1.grow g2) (.bl _) h1⟩
/-! walks with their premises -/
theorem di_zip' {elts : List Expr} {kk : Nat} {tpos : Pos} (hg : Gl X "zip") (hm : X.mg "zip" = none) (ha : DE K X a ta da) (hb : DE K X b tb db) (hs : starEach [a, b] X.env = (false, eval a X.env) :: starEach [b] X.env := by rfl) (hs2 : starEach [b] X.env = (false, eval b X.env) :: starEach [] X.env := by rfl) (hpl : (backTo pos (starEach [b] X.env)).any (·.1) = false := by rfl) (hK : X.K = K := by rfl) :
    DI K X (.Tuple elts kk tpos) (.Call (.Name "zip" p) [a, b] [] pos) (RZ.iZipA K (tCons ta (tCons tb tNil))) (dZip da db) := by
  subst hK
  exact di_zip hg hm ha hb (RZ.pi_zipA hg hm (pa_cons ha.pe (pa_cons hb.pe pa_nil hs2) hs) hs hpl)
theorem di_enum' {elts : List Expr} {kk : Nat} {tpos : Pos} (hg : Gl X "enumerate") (hm : X.mg "enumerate" = none) (ha : DE K X a ta da) (hs : starEach [a] X.env = [(false, eval a X.env)] := by rfl) (hs2 : starEach [a] X.env = (false, eval a X.env) :: starEach [] X.env := by rfl) (hK : X.K = K := by rfl) :
    DI K X (.Tuple elts kk tpos) (.Call (.Name "enumerate" p) [a] [] pos) (iEnum K (tCons ta tNil)) (dEnum da) := by
  subst hK
  exact di_enum ha (pi_enum hg hm (pa_cons ha.pe pa_nil hs2) hs)
/-! lists of one's own, with their premises -/
theorem ds_append' (i : Nat) {x : Str} {p1 apos cpos pos2 : Pos} (h : DE K X e te de) (hN : X.N[i]? = some x := by rfl) (hv : Vis X.env.scope x := by first | exact Or.inl rfl | exact Or.inr (Or.inl rfl) | exact Or.inr (Or.inr rfl)) (hd : (x == ("__debug__" : Str)) = false := by decide) (hcd : (x == ("__classdict__" : Str)) = false := by decide)
    (hbase : attributeBase (.Name x p1) "append" X.env (eval (.Name x p1) X.env) = eval (.Name x p1) X.env := by rfl)
    (hfew : ((backTo cpos (starEach (e :: []) X.env)).all (fun x => !x.1) && (backToKw cpos (keywordEach [] X.env)).all (fun x => x.1.isSome) && decide ((e :: []).length + ([] : List Keyword).length + (if ([] : List Keyword).isEmpty then 0 else 1) < 30)) = true := by rfl)
    (hline : (apos.endLine == cpos.line) = true := by rfl) (hs : starEach (e :: []) X.env = (false, eval e X.env) :: starEach [] X.env := by rfl) (hplain : (backTo cpos (starEach [] X.env)).any (·.1) = false := by rfl)
    (hsw : swapsWith (.Call (.Attribute (.Name x p1) "append" apos) [e] [] cpos) none pos2.line X.env = pure false := by rfl) (hK : X.K = K := by rfl) :
    DS K X (.Expr (.Call (.Attribute (.Name x p1) "append" apos) [e] [] cpos) pos2) (tDrop (tBM K "list" rAppend (tVar i) (tCons te tNil))) (dApp i de) := by
  subst hK
  exact ds_append i h (pe_bm PySem.F.plainAttrs_list PySem.F.slot_list_append PySem.F.type_list_append mt_append (pe_var hN hv hd hcd) (pa_cons h.pe pa_nil hs) hbase hfew hline hs hplain) hsw
def rInsert : V → List V → Hp → VK → Prop := fun x vs H Q => ∃ (l : Addr) (xs : List V) (i : Int) (y : V), x = .ref l ∧ vs = [.int i, y] ∧ H l = some (.lst xs) ∧ xs.length < sizeLine ∧ 0 ≤ i ∧ i < 2 ^ 63 ∧ Q .non (upd H l (.lst (xs.take i.toNat ++ [y] ++ xs.drop i.toNat)))
theorem ds_insert' (i : Nat) {x : Str} {p1 apos cpos pos2 : Pos} (hk : DE K X a ta da) (h : DE K X e te de) (hN : X.N[i]? = some x := by rfl) (hv : Vis X.env.scope x := by first | exact Or.inl rfl | exact Or.inr (Or.inl rfl) | exact Or.inr (Or.inr rfl)) (hd : (x == ("__debug__" : Str)) = false := by decide) (hcd : (x == ("__classdict__" : Str)) = false := by decide)
    (hbase : attributeBase (.Name x p1) "insert" X.env (eval (.Name x p1) X.env) = eval (.Name x p1) X.env := by rfl)
    (hfew : ((backTo cpos (starEach (a :: [e]) X.env)).all (fun x => !x.1) && (backToKw cpos (keywordEach [] X.env)).all (fun x => x.1.isSome) && decide ((a :: [e]).length + ([] : List Keyword).length + (if ([] : List Keyword).isEmpty then 0 else 1) < 30)) = true := by rfl)
    (hline : (apos.endLine == cpos.line) = true := by rfl) (hs : starEach (a :: [e]) X.env = (false, eval a X.env) :: starEach [e] X.env := by rfl) (hs2 : starEach (e :: []) X.env = (false, eval e X.env) :: starEach [] X.env := by rfl) (hplain : (backTo cpos (starEach [e] X.env)).any (·.1) = false := by rfl)
    (hsw : swapsWith (.Call (.Attribute (.Name x p1) "insert" apos) [a, e] [] cpos) none pos2.line X.env = pure false := by rfl) (hK : X.K = K := by rfl) :
    DS K X (.Expr (.Call (.Attribute (.Name x p1) "insert" apos) [a, e] [] cpos) pos2) (tDrop (tBM K "list" rInsert (tVar i) (tCons ta (tCons te tNil)))) (dIns i da de) := by
  subst hK
  exact ds_insert i hk h (pe_bm PySem.F.plainAttrs_list PySem.F.slot_list_insert PySem.F.type_list_insert mt_insert (pe_var hN hv hd hcd) (pa_cons hk.pe (pa_cons h.pe pa_nil hs2) hs) hbase hfew hline hs hplain)
      (fun l xs k y H Q h1 h2 h3 h4 h5 => ⟨l, xs, k, y, rfl, rfl, h1, h2, h3, h4, h5⟩) hsw
theorem ds_setItem' (i : Nat) {x : Str} {p1 p2 pos2 : Pos} (h : DE K X e te de) (hk : DE K X a ta da) (hN : X.N[i]? = some x := by rfl) (hv : Vis X.env.scope x := by first | exact Or.inl rfl | exact Or.inr (Or.inl rfl) | exact Or.inr (Or.inr rfl)) (hd : (x == ("__debug__" : Str)) = false := by decide) (hcd : (x == ("__classdict__" : Str)) = false := by decide)
    (hs : swapsWithSole [.Subscript (.Name x p1) a p2] e pos2.line X.env = pure false := by rfl) (hw : swappedStores [.Subscript (.Name x p1) a p2] e X.env = pure none := by rfl)
    (h1 : (assignEach [.Subscript (.Name x p1) a p2] X.env).map (·.2) = [assign (.Subscript (.Name x p1) a p2) X.env] := by rfl)
    (ha : ∀ v, assign (.Subscript (.Name x p1) a p2) X.env v = (do
      let ov ← holding [v] (eval (.Name x p1) X.env)
      let iv ← holding [v, ov] (eval a X.env)
      standAt p2
      holding [v, ov, iv] (setItem ov iv v)
      release [v, ov, iv] []) := by intro _; rfl) (hK : X.K = K := by rfl) :
    DS K X (.Assign [.Subscript (.Name x p1) a p2] e pos2) (tAsg te (gSub (tVar i) ta rSetL)) (dSet i de da) := by
  subst hK
  exact ds_setItem i h hk (ps_asg h.pe (pg_sub (pe_var hN hv hd hcd) hk.pe set_list ha) hs hw h1)
/-! abs, int -/
omit [MSt S] in
def dAbs (da : DEt S) : DEt S := fun ε n P => da ε n fun x n1 => match x with | .int i => P (.int (if i < 0 then -i else i)) n1 | _ => False
omit [MSt S] in
def dInt (da : DEt S) : DEt S := fun ε n P => da ε n fun x n1 => match x with | .int i => P (.int i) n1 | .bool b => P (.int (if b then 1 else 0)) n1 | _ => False
theorem de_abs (hg : Gl X "abs") (hm : X.mg "abs" = none) (h : DE K X a ta da) (he : starEach (a :: []) X.env = (false, eval a X.env) :: starEach [] X.env := by rfl) (hpl : (backTo pos (starEach [] X.env)).any (·.1) = false := by rfl) (hK : X.K = K := by rfl) :
    DE K X (.Call (.Name "abs" p) [a] [] pos) (tCB (fun xs H Q => ∃ i, xs = [.int i] ∧ Q (.int (if i < 0 then -i else i)) H) (tCons ta tNil)) (dAbs da) := by
  subst hK
  exact ⟨pe_callB call_abs hg hm boot_abs (pa_cons h.pe pa_nil he) (by decide) (by decide) he hpl, fun bo G0 H0 σ H G ε n P Q R hp k => h.se bo G0 H0 σ H G ε n _ _ R hp fun v G1 H1 d n1 g1 b1 p1 h1 => by
      cases p1 with
      | int i => exact ⟨i, rfl, k _ G1 H1 _ n1 g1 b1 (.int _) h1⟩
      | _ => exact h1.elim⟩
theorem de_intOf (hg : Gl X "int") (hm : X.mg "int" = none) (h : DE K X a ta da) (he : starEach (a :: []) X.env = (false, eval a X.env) :: starEach [] X.env := by rfl) (hpl : (backTo pos (starEach [] X.env)).any (·.1) = false := by rfl) (hK : X.K = K := by rfl) :
    DE K X (.Call (.Name "int" p) [a] [] pos) (tCB (fun xs H Q => (∃ i, xs = [.int i] ∧ Q (.int i) H) ∨ ∃ k, xs = [.bl k] ∧ Q (.int (if k then 1 else 0)) H) (tCons ta tNil)) (dInt da) := by
  subst hK
  exact ⟨pe_callTy call_int1 hg hm boot_int (pa_cons h.pe pa_nil he) (by decide) (by decide) he hpl, fun bo G0 H0 σ H G ε n P Q R hp k => h.se bo G0 H0 σ H G ε n _ _ R hp fun v G1 H1 d n1 g1 b1 p1 h1 => by
      cases p1 with
      | int i => exact .inl ⟨i, rfl, k _ G1 H1 _ n1 g1 b1 (.int _) h1⟩
      | bl i => exact .inr ⟨i, rfl, k _ G1 H1 _ n1 g1 b1 (.int _) h1⟩
      | _ => exact h1.elim⟩
end
end DL

set_option Elab.async false
set_option linter.all false
set_option autoImplicit false
set_option maxRecDepth 100000
namespace DL
open PySem PySem.Spec PyProof.Rows L2
variable {S : Type} [MSt S]
/-- the built-ins' names are still the built-ins' -/
structure Bt (mg : Str → Option Value) : Prop where
  len : mg "len" = none
  all : mg "all" = none
  any : mg "any" = none
  sum : mg "sum" = none
  tuple : mg "tuple" = none
  list : mg "list" = none
  sorted : mg "sorted" = none
  range : mg "range" = none
  zip : mg "zip" = none
  enumerate : mg "enumerate" = none
  isinstance : mg "isinstance" = none
  abs : mg "abs" = none
  int : mg "int" = none
  bool : mg "bool" = none
  str : mg "str" = none
  set : mg "set" = none
  repr : mg "repr" = none
  min : mg "min" = none
  max : mg "max" = none
  reversed : mg "reversed" = none
  dict : mg "dict" = none
theorem Kf.of {P : Program} {w : World} {K : PySem.W.Frag} {mg : Str → Option Value} {base : Heap} {x : Str} {k m : Nat} {con : ConS S} {f : Addr} {fd : FuncData} {ps : List Str} (F : FnOk P w K mg base CX0 k f fd ps (spD K m con)) (g : mg x = some (.ref f)) (kp : PySem.W.keepIn K (.ref f) = true) (b : Binds K fd ps []) : Kf P w K mg base x k m con := ⟨⟨f, fd, ps, F, g, kp, b⟩⟩
end DL
namespace DL
open PySem PySem.Spec PyProof.Rows L2
theorem seqD_list (ds : List PyData) : seqD (.list ds) = some (false, ds) := rfl
theorem seqD_tuple (ds : List PyData) : seqD (.tuple ds) = some (true, ds) := rfl
theorem isIntD_int (i : Int) : isIntD (.int i) = true := rfl
theorem isBoolD_int (i : Int) : isBoolD (.int i) = false := rfl
end DL

set_option Elab.async false
set_option linter.all false
set_option maxRecDepth 100000
namespace DL
open PySem PySem.Spec PyProof.Rows L2
section
variable {P : Program} {w : World} {A : Around} {E : Value → Shared → Prop} {s : Shared}
set_option maxRecDepth 100000 in
set_option maxHeartbeats 4000000 in
/-- set(a list of ints) -/
theorem set_listI {l : Addr} {items : Array Value} (ns : List Int) {Q : Value → Shared → Prop} (wh : A.handled = none) (wl : s.heap.IsList l items) (wi : IntsAre items.toList ns) (wb : ns.length + 1 < scanBound)
    (h : ∀ (h' : Heap) (tk c : Nat), SetR w h' s.heap.objs.size (fun j => decide (j ∈ ns)) c → c ≤ ns.length → (∀ b o, s.heap.get? b = some o → h'.get? b = some o) → Q (.ref s.heap.objs.size) { s with heap := h', toks := tk }) :
    wpAny (model P w) A (call (.type "set") [.ref l]) Q E s := by
  have zn : items.size = ns.length := by
    have q := IntsAre.length wi
    rw [Array.length_toList] at q
    exact q
  obtain ⟨c, tz, zm⟩ := F.called_set.mro
  have zd := F.called_set.made
  have zs := F.called_set.sub
  refine wpAny_call (codeAny_of_tree ?_)
  show wpAny _ _ (callAny (.type "set") _) _ _ _
  refine wpAny_pure ⟨Code.quiet_builtin _ (by decide +kernel), codeAny_builtin F.entry_type_call ?_⟩
  rw [Around.under_plain (weight_type_call_type "set" [.ref l] []) rfl]
  have w1 := F.called_set.notType
  have w2 := F.called_set.canCreate
  have zc := F.typeCall_set_1 (.ref l)
  repeat (any_goals (first | assumption | wp_step))

  refine codeAny_mono (code_set_led1 (.ref l) (E := E) (Q₁ := fun ob s₁ => ob = .ref s.heap.objs.size ∧ s₁ = { s with heap := s.heap.push { cls := .type "set", dict := none, data := .set #[] 0 (.fresh 0 0 (!w.params.followText "set-order")) } }) ⟨rfl, rfl⟩) fun r s₁ wr => ?_
  cases r with
  | error e => exact wr
  | ok g1 =>
    cases g1 with
    | ret ob =>
      obtain ⟨rfl, rfl⟩ := wr
      have zS : (s.heap.push { cls := .type "set", dict := none, data := .set #[] 0 (.fresh 0 0 (!w.params.followText "set-order")) }).get? s.heap.objs.size = some { cls := .type "set", dict := none, data := .set #[] 0 (.fresh 0 0 (!w.params.followText "set-order")) } := Heap.get?_push_size _ rfl
      have zT : Shared.TypeIs { s with heap := s.heap.push { cls := .type "set", dict := none, data := .set #[] 0 (.fresh 0 0 (!w.params.followText "set-order")) } } (.ref s.heap.objs.size) "set" := ⟨_, zS, rfl⟩
      have zi := F.called_set.init.lookup
      have zb := F.called_set.init.bind (.ref s.heap.objs.size)
      repeat (any_goals (first | assumption | wp_step))

      refine codeAny_mono (codeAny_call_builtin (R := wants (fun r s₂ => r = .none ∧ ∃ h' tk c, s₂ = { s with heap := h', toks := tk } ∧ SetR w h' s.heap.objs.size (fun j => decide (j ∈ ns)) c ∧ c ≤ ns.length ∧
          (∀ b o, s.heap.get? b = some o → h'.get? b = some o)) E) F.called_set.init.plain F.entry_set_init (check_set_init_1 zT ?_)) fun r₂ s₂ xr => ?_
      · obtain ⟨yq, yo, yc, ym, yd⟩ := wl
        obtain ⟨q1, q2, q3, q4⟩ := yq
        simp only at yc yd
        subst yc; subst yd
        have yp : (s.heap.push { cls := .type "set", dict := none, data := .set #[] 0 (.fresh 0 0 (!w.params.followText "set-order")) }).get? l = some { cls := .type "list", dict := q2, data := .seq items ym, slots := q4 } := Heap.get?_push_of_some _ yo
        have ya := F.sub_list_set
        have yb := F.sub_list_frozenset
        have ye : (Value.type "list" == Value.type "dict") = false := by decide
        have yl : (s.heap.push { cls := .type "set", dict := none, data := .set #[] 0 (.fresh 0 0 (!w.params.followText "set-order")) }).IsList l items := ⟨_, yp, rfl, ym, rfl⟩
        unfold Builtin.«set.__init__» noKeywords Builtin.Frozenset.updateFrom
        generalize yi : pyIter = PI
        wp_walk
        subst yi

        refine wpAny_pyIter_list yl ?_
        refine wpAny_bind (wpAny_runValue ?_)
        have xs : l < s.heap.objs.size := Heap.lt_size yo
        have xh : A.in1.in1.in1.handled = none := by simp [wh]
        have xz : (s.heap.push { cls := .type "set", dict := none, data := .set #[] 0 (.fresh 0 0 (!w.params.followText "set-order")) }).objs.size = s.heap.objs.size + 1 := Heap.size_push ..
        have xn : l ≠ (s.heap.push { cls := .type "set", dict := none, data := .set #[] 0 (.fresh 0 0 (!w.params.followText "set-order")) }).objs.size := by
          rw [Heap.size_push]; exact Nat.ne_of_lt (Nat.lt_succ_of_lt xs)
        have xf : s.heap.objs.size ∉ [(s.heap.push { cls := .type "set", dict := none, data := .set #[] 0 (.fresh 0 0 (!w.params.followText "set-order")) }).objs.size, l] := by
          rw [Heap.size_push]; simp only [List.mem_cons, List.mem_singleton, List.not_mem_nil, or_false, not_or]
          exact ⟨Nat.ne_of_lt (Nat.lt_succ_self _), Nat.ne_of_gt xs⟩
        have xv : ∀ (i : Nat) (v : Value), items[i]? = some v → ∃ k t, ns[i]? = some k ∧ v = .int k t := fun i v vv => by
          have vi : i < ns.length := by rw [← zn]; exact (Array.getElem?_eq_some_iff.mp vv).1
          obtain ⟨t, e⟩ := PyProof.Rows.IntsAre.int_at wi i v (by rw [Array.getElem?_toList]; exact vv)
          refine ⟨ns[i], t, List.getElem?_eq_getElem vi, ?_⟩
          rw [e, List.getD_eq_getElem?_getD, List.getElem?_eq_getElem vi] <;> rfl
        refine set_update_ints ((Walks.list xh _ l xn items).toS) s.heap.objs.size
          xf ns zn wb xv (items.size - 0) 0 _ (by omega) (Nat.zero_le _)
          ⟨⟨_, Heap.get?_push_size _ rfl, rfl, rfl⟩, (yl.push _)⟩ ?hS0 ?hR
        case hS0 =>
          have xg : ((s.heap.push { cls := .type "set", dict := none, data := .set #[] 0 (.fresh 0 0 (!w.params.followText "set-order")) }).push { cls := .type "list_iterator", data := .fields #[.ref l, .int 0 0] }).get? s.heap.objs.size
              = some { cls := .type "set", dict := none, data := .set #[] 0 (.fresh 0 0 (!w.params.followText "set-order")) } := Heap.get?_push_of_some _ zS
          exact ⟨0, Nat.le_refl 0, setR_new_at xg⟩
        case hR =>
          intro s' c' vm xc xS
          obtain ⟨h', g2, d', tk', os'⟩ := s'
          have u1 : g2 = s.gens := vm.gens
          have u2 : d' = s.drawn := vm.drawn
          have u3 : os' = s.os := vm.os
          subst u1; subst u2; subst u3
          show wpAny _ _ _ _ _ _
          refine wpAny_pure ?_
          show wpAny _ _ (ret Value.none) _ _ _
          rw [zn] at xc
          refine wpAny_pure ⟨rfl, h', tk', c', rfl, xS, xc, fun b o e => ?_⟩
          have v0 : b < s.heap.objs.size := Heap.lt_size e
          have v1 : b ≠ s.heap.objs.size := Nat.ne_of_lt v0
          have v2 : b ≠ (s.heap.push { cls := .type "set", dict := none, data := .set #[] 0 (.fresh 0 0 (!w.params.followText "set-order")) }).objs.size := by
            rw [Heap.size_push]; exact Nat.ne_of_lt (Nat.lt_succ_of_lt v0)
          exact vm.heap b o (by simp only [List.mem_cons, List.mem_singleton, List.not_mem_nil, or_false, not_or]; exact ⟨v1, v2⟩) (Heap.get?_push_of_some _ (Heap.get?_push_of_some _ e))

      · cases r₂ with
        | error e => exact xr
        | ok g2 =>
          cases g2 with
          | ret r =>
            obtain ⟨rfl, h', tk, c', rfl, xS, xc, xk⟩ := xr
            repeat (any_goals (first | assumption | wp_step))
            exact h _ _ _ xS xc xk
          | _ => exact xr.elim
    | _ => exact wr.elim

end
end DL

set_option Elab.async false
set_option linter.all false
set_option autoImplicit false
set_option maxRecDepth 100000
namespace DL
open PySem PySem.Spec PyProof.Rows L2
variable {S : Type} [MSt S]
theorem ints_of : ∀ {ns : List Int} {us : List Value}, Vals (ns.map V.int) us → IntsAre us ns
  | [], _, .nil => .nil
  | n :: ns, _, .cons r t => by
    obtain ⟨k, rfl⟩ := r
    exact .cons n k (ints_of t)
/-- set(xs), xs a list or a tuple of ints -/
def rSetI (K : PySem.W.Frag) (w : World) : List V → Hp → VK → Prop := fun xs H Q => ∃ (l : Addr) (ns : List Int), xs = [.ref l] ∧ (SqL K H l (ns.map V.int) ∨ SqT K H l (ns.map V.int)) ∧ ns.length ≤ 4000 ∧
  ∀ a c, H a = none → c ≤ ns.length → Q (.ref a) (upd H a (SetO w a (fun j => decide (j ∈ ns)) c))
theorem cr_setI {X : Cx} (hc : X.calm = true) : CallR X (.type "set") (rSetI X.K X.w) := by
  intro pins s σ H xs us Q I r h
  obtain ⟨l, ns, rfl, hq, hn, q⟩ := h
  have hb : ns.length + 1 < scanBound := by
    unfold scanBound
    omega
  rw [Vals.ref1 r]
  rcases hq with hq | hq
  · obtain ⟨its, rv, pl, hz⟩ := I.list hq
    refine set_listI ns (I.ok.hd hc) pl.isList (by simpa using ints_of rv) hb fun h' tk c R hcl hk => ?_
    exact ⟨.ref _, _, I.laid (t' := tk) hk (Nat.le_refl _) (setO_new R), rfl, q _ c (I.hok.fresh (Nat.le_refl _)) hcl⟩
  · obtain ⟨its, rv, pl, hz⟩ := I.tuple hq
    refine call_set_tupI ns (I.ok.hd hc) (show s.heap.IsTuple l its.toArray from pl) (by simpa using ints_of rv) hb fun h' tk c R hcl hk => ?_
    exact ⟨.ref _, _, I.laid (t' := tk) hk (Nat.le_refl _) (setO_new R), rfl, q _ c (I.hok.fresh (Nat.le_refl _)) hcl⟩
section
variable {X : Cx} {K : PySem.W.Frag} {a : Expr} {ta : TE} {dq : DQt S} {p p2 q pos : Pos}
omit [MSt S] in
/-- sorted(set(xs)) -/
def dSortSet (dq : DQt S) : DFt S := fun ε n P => dq ε n fun _ ds n1 => ∃ ns, inD ds = some ns ∧ ns.length < 64 ∧ ∀ ns' : List Int, ns'.Pairwise (· < ·) → (∀ k, k ∈ ns' ↔ k ∈ ns) → P (ns'.map PyData.int) n1
theorem df_sortedSet {W : World} (hc : X.calm = true) (hg : Gl X "sorted") (hm : X.mg "sorted" = none) (hg2 : Gl X "set") (hm2 : X.mg "set" = none) (h : DQ K X a ta dq) (na : starEach [a] X.env = (false, eval a X.env) :: starEach [] X.env := by rfl)
    (nb : starEach [.Call (.Name "set" p2) [a] [] q] X.env = (false, eval (.Call (.Name "set" p2) [a] [] q) X.env) :: starEach [] X.env := by rfl) (hpl : (backTo pos (starEach [] X.env)).any (·.1) = false := by rfl) (hpl2 : (backTo q (starEach [] X.env)).any (·.1) = false := by rfl) (hK : X.K = K := by rfl) (hW : X.w = W := by rfl) :
    DF K X (.Call (.Name "sorted" p) [.Call (.Name "set" p2) [a] [] q] [] pos) (tCB (rSortedSet W) (tCons (tCB (rSetI K W) (tCons ta tNil)) tNil)) (dSortSet dq) := by
  subst hK
  subst hW
  exact ⟨pe_callB (cr_sortedSet hc) hg hm boot_sorted (pa_cons (pe_callTy (cr_setI hc) hg2 hm2 boot_set (pa_cons h.pe pa_nil na) (by decide) (by decide) na hpl2) pa_nil nb) (by decide) (by decide) nb hpl, fun bo G0 H0 σ H G ε n P Q R hp k =>
      h.se bo G0 H0 σ H G ε n _ _ R hp fun l vs G1 H1 kk ds n1 g1 b1 hbo sq hd h1 => by
        obtain ⟨ns, e1, hn, h1⟩ := h1
        have ev := in_map hd e1
        subst ev
        refine ⟨l, ns, rfl, sq.lt g1.gh, by omega, fun a c ha hcl => ?_⟩
        refine ⟨a, _, c, rfl, upd_same, by omega, fun ns' p' hp1 hp2 hp3 hp4 => ?_⟩
        have g2 : Grow none G1 H1 G1 (upd H1 a (SetO X.w a (fun j => decide (j ∈ ns)) c)) := Grow.out g1.gh ha
        have g3 := Grow.out (bo := none) (o := HO.lst (ns'.map V.int)) g2.gh hp4
        have b2 := b1.grow g2
        have g12 := g1.trans b1 (g2.any (bo := bo))
        exact k p' _ G1 _ _ n1 (g12.trans b2 g3.any) (b2.grow g3) (g12.back b2 hp4) (g2.gh.free hp4) upd_same (in_of ns') (h1 ns' hp1 fun k => by rw [hp2 k]; simp)⟩
end
end DL

set_option Elab.async false
set_option linter.all false
set_option autoImplicit false
set_option maxRecDepth 100000
namespace DL
open PySem PySem.Spec PyProof.Rows L2
variable {S : Type}
section
variable {X : Cx} {K : PySem.W.Frag} {a b e : Expr} {ta tb te : TE} {da db de : DEt Nat} {p p1 p2 p3 pos : Pos}
/-! ### the box's own numbers -/
def dBx0 (i : Nat) : DEt Nat := fun ε n P => ε[i]? = some .bx ∧ ∀ v : Int, 0 ≤ v → P (.int v) n
def dBx1 (i : Nat) : DEt Nat := fun ε n P => ε[i]? = some .bx ∧ ∀ v : Int, 0 ≤ v → v < 4611686018427387904 → P (.int v) n
def dBx2 (i : Nat) : DEt Nat := fun ε n P => ε[i]? = some .bx ∧ ∀ v : Int, 0 ≤ v → v ≤ (n : Int) → P (.int v) n
theorem box_get {bo : Option Bo} {G0 H0 H G : Hp} {σ : L2.St} {ε : En} {n : Nat} (R : Rl K bo G0 H0 σ H G ε n) {i : Nat} (h : ε[i]? = some .bx) : ∃ bb x y z, bo = some ⟨bb, [bb]⟩ ∧ σ[i]? = some (some (.ref bb)) ∧ H bb = some (.lst [.int x, .int y, .int z]) ∧ 0 ≤ x ∧ 0 ≤ y ∧ y < 4611686018427387904 ∧ 0 ≤ z ∧ z ≤ (n : Int) := by
  obtain ⟨⟨bb, fp⟩, rfl, e⟩ := R.bs i h
  obtain ⟨e1, x, y, z, e2, q⟩ := R.bx
  have e1' : fp = [bb] := e1
  subst e1'
  exact ⟨bb, x, y, z, rfl, e, e2, q⟩
theorem de_bx0 (i : Nat) {x : Str} {j : Nat} (hN : X.N[i]? = some x := by rfl) (hv : Vis X.env.scope x := by first | exact Or.inl rfl | exact Or.inr (Or.inl rfl) | exact Or.inr (Or.inr rfl)) (hd : (x == ("__debug__" : Str)) = false := by decide) (hcd : (x == ("__classdict__" : Str)) = false := by decide)
    (hs : PlainIx (.Constant (.int 0) j p2) := by exact fun _ _ => rfl) (hK : X.K = K := by rfl) : DE K X (.Subscript (.Name x p1) (.Constant (.int 0) j p2) pos) (tOp (rIxL K) (tVar i) (tC (.int 0))) (dBx0 i) := by
  subst hK
  exact ⟨pe_ix ix_list (pe_var hN hv hd hcd) pe_int hs, fun bo G0 H0 σ H G ε n P Q R hp k => by
    obtain ⟨h1, h2⟩ := hp
    obtain ⟨bb, x, y, z, e1, e2, e3, e4, e5, e6, e7, e8⟩ := box_get R h1
    exact ⟨.ref bb, e2, bb, _, 0, .int x, rfl, rfl, .inl (.inl e3), rfl, k _ G H _ n (Grow.refl R.gh) R.bx (.int x) (h2 x e4)⟩⟩
theorem de_bx1 (i : Nat) {x : Str} {j : Nat} (hN : X.N[i]? = some x := by rfl) (hv : Vis X.env.scope x := by first | exact Or.inl rfl | exact Or.inr (Or.inl rfl) | exact Or.inr (Or.inr rfl)) (hd : (x == ("__debug__" : Str)) = false := by decide) (hcd : (x == ("__classdict__" : Str)) = false := by decide)
    (hs : PlainIx (.Constant (.int 1) j p2) := by exact fun _ _ => rfl) (hK : X.K = K := by rfl) : DE K X (.Subscript (.Name x p1) (.Constant (.int 1) j p2) pos) (tOp (rIxL K) (tVar i) (tC (.int 1))) (dBx1 i) := by
  subst hK
  exact ⟨pe_ix ix_list (pe_var hN hv hd hcd) pe_int hs, fun bo G0 H0 σ H G ε n P Q R hp k => by
    obtain ⟨h1, h2⟩ := hp
    obtain ⟨bb, x, y, z, e1, e2, e3, e4, e5, e6, e7, e8⟩ := box_get R h1
    exact ⟨.ref bb, e2, bb, _, 1, .int y, rfl, rfl, .inl (.inl e3), rfl, k _ G H _ n (Grow.refl R.gh) R.bx (.int y) (h2 y e5 e6)⟩⟩
theorem de_bx2 (i : Nat) {x : Str} {j : Nat} (hN : X.N[i]? = some x := by rfl) (hv : Vis X.env.scope x := by first | exact Or.inl rfl | exact Or.inr (Or.inl rfl) | exact Or.inr (Or.inr rfl)) (hd : (x == ("__debug__" : Str)) = false := by decide) (hcd : (x == ("__classdict__" : Str)) = false := by decide)
    (hs : PlainIx (.Constant (.int 2) j p2) := by exact fun _ _ => rfl) (hK : X.K = K := by rfl) : DE K X (.Subscript (.Name x p1) (.Constant (.int 2) j p2) pos) (tOp (rIxL K) (tVar i) (tC (.int 2))) (dBx2 i) := by
  subst hK
  exact ⟨pe_ix ix_list (pe_var hN hv hd hcd) pe_int hs, fun bo G0 H0 σ H G ε n P Q R hp k => by
    obtain ⟨h1, h2⟩ := hp
    obtain ⟨bb, x, y, z, e1, e2, e3, e4, e5, e6, e7, e8⟩ := box_get R h1
    exact ⟨.ref bb, e2, bb, _, 2, .int z, rfl, rfl, .inl (.inl e3), rfl, k _ G H _ n (Grow.refl R.gh) R.bx (.int z) (h2 z e7 e8)⟩⟩
theorem Rl.putBox {bb : Addr} {G0 H0 H G : Hp} {σ : L2.St} {ε : En} {n m : Nat} {o : HO} (R : Rl K (some ⟨bb, [bb]⟩) G0 H0 σ H G ε n) (hb : BoxAt (upd H bb o) bb m) : Rl K (some ⟨bb, [bb]⟩) G0 H0 σ (upd H bb o) G ε m := by
  have hG : G bb = none := R.gb bb (List.mem_singleton.mpr rfl)
  have hne : ∀ c, ¬ Has (some ⟨bb, [bb]⟩) c → c ≠ bb := fun c hc z => hc (List.mem_singleton.mpr z)
  refine ⟨⟨R.gr.gg, fun c u q => ?_, R.gr.fr, fun c u hc q => ?_⟩, ⟨rfl, hb⟩, R.gb, R.ln, R.im, R.bs, R.rd, ?_⟩
  · rw [upd_ne (ne_of_none q hG)]
    exact R.gr.gh c u q
  · rw [upd_ne (hne c hc)]
    exact R.gr.kp c u hc q
  · obtain ⟨fp, h1, h2, h3⟩ := R.own
    refine ⟨fp, h1, fun i a ha => ?_, fun i s o hi ho => ?_⟩
    · obtain ⟨q1, q2, q3, q4⟩ := h2 i a ha
      exact ⟨q1, q2, q3, by rw [upd_ne (hne a q2)]; exact q4⟩
    · obtain ⟨v, hv, hr⟩ := h3 i s o hi ho
      exact ⟨v, hv, hr.keep (Same.refl G) fun a ha u q => by rw [upd_ne (hne a (h2 i a ha).2.1)]; exact q⟩
def dSb0 (i : Nat) (de : DEt Nat) : DSt Nat := fun D ε n => ε[i]? = some .bx ∧ de ε n fun d n1 => match d with | .int v => 0 ≤ v ∧ D.nx ε n1 | _ => False
def dSb2 (i : Nat) (de : DEt Nat) : DSt Nat := fun D ε n => ε[i]? = some .bx ∧ de ε n fun d n1 => match d with | .int v => 0 ≤ v ∧ ∃ m : Nat, v ≤ (m : Int) ∧ D.nx ε m | _ => False
theorem ds_sb0 (i : Nat) {x : Str} {j : Nat} {pos2 : Pos} (h : DE K X e te de) (hN : X.N[i]? = some x := by rfl) (hv : Vis X.env.scope x := by first | exact Or.inl rfl | exact Or.inr (Or.inl rfl) | exact Or.inr (Or.inr rfl)) (hd : (x == ("__debug__" : Str)) = false := by decide) (hcd : (x == ("__classdict__" : Str)) = false := by decide)
    (hp : PS X (.Assign [.Subscript (.Name x p1) (.Constant (.int 0) j p3) p2] e pos2) (tAsg te (gSub (tVar i) (tC (.int 0)) rSetL)) := by exact ps_asg (by assumption) (pg_sub (pe_var (by rfl) (by first | exact Or.inl rfl | exact Or.inr (Or.inl rfl))) pe_int set_list)) (hK : X.K = K := by rfl) :
    DS K X (.Assign [.Subscript (.Name x p1) (.Constant (.int 0) j p3) p2] e pos2) (tAsg te (gSub (tVar i) (tC (.int 0)) rSetL)) (dSb0 i de) := by
  subst hK
  exact ⟨hp, fun bo G0 H0 σ H G ε n D DD r l q => by
    obtain ⟨q1, q2⟩ := q
    refine h.se bo G0 H0 σ H G ε n _ _ r q2 fun v G1 H1 d n1 g1 b1 p1 h1 => ?_
    have r1 := r.grow g1 b1
    obtain ⟨bb, x, y, z, rfl, e2, e3, e4, e5, e6, e7, e8⟩ := box_get r1 q1
    cases p1 with
    | int v => exact ⟨.ref bb, e2, bb, _, 0, 0, rfl, rfl, e3, rfl, l.nx _ _ G1 ε n1 (r1.putBox ⟨v, y, z, upd_same, h1.1, e5, e6, e7, e8⟩) h1.2⟩
    | _ => exact h1.elim⟩
theorem ds_sb2 (i : Nat) {x : Str} {j : Nat} {pos2 : Pos} (h : DE K X e te de) (hN : X.N[i]? = some x := by rfl) (hv : Vis X.env.scope x := by first | exact Or.inl rfl | exact Or.inr (Or.inl rfl) | exact Or.inr (Or.inr rfl)) (hd : (x == ("__debug__" : Str)) = false := by decide) (hcd : (x == ("__classdict__" : Str)) = false := by decide)
    (hp : PS X (.Assign [.Subscript (.Name x p1) (.Constant (.int 2) j p3) p2] e pos2) (tAsg te (gSub (tVar i) (tC (.int 2)) rSetL)) := by exact ps_asg (by assumption) (pg_sub (pe_var (by rfl) (by first | exact Or.inl rfl | exact Or.inr (Or.inl rfl))) pe_int set_list)) (hK : X.K = K := by rfl) :
    DS K X (.Assign [.Subscript (.Name x p1) (.Constant (.int 2) j p3) p2] e pos2) (tAsg te (gSub (tVar i) (tC (.int 2)) rSetL)) (dSb2 i de) := by
  subst hK
  exact ⟨hp, fun bo G0 H0 σ H G ε n D DD r l q => by
    obtain ⟨q1, q2⟩ := q
    refine h.se bo G0 H0 σ H G ε n _ _ r q2 fun v G1 H1 d n1 g1 b1 p1 h1 => ?_
    have r1 := r.grow g1 b1
    obtain ⟨bb, x, y, z, rfl, e2, e3, e4, e5, e6, e7, e8⟩ := box_get r1 q1
    cases p1 with
    | int v =>
      obtain ⟨h0, m, hm, h1⟩ := h1
      exact ⟨.ref bb, e2, bb, _, 2, 2, rfl, rfl, e3, rfl, l.nx _ _ G1 ε m (r1.putBox ⟨x, y, v, upd_same, e4, e5, e6, h0, hm⟩) h1⟩
    | _ => exact h1.elim⟩
end
section
variable [MSt S] {X : Cx} {K : PySem.W.Frag} {a b e : Expr} {ta tb te : TE} {da db de : DEt S} {p p1 p2 p3 pos : Pos}
theorem de_pow (ha : DE K X a ta da) (hb : DE K X b tb db) (hK : X.K = K := by rfl) : DE K X (.BinOp a .Pow b pos) (tOp (rI CPow fun i j => .int (i ^ j.toNat)) ta tb) (dOp (fI CPow fun i j => .int (i ^ j.toNat)) da db) := by
  subst hK
  exact de_op op_pow (ops_I fun _ _ _ => .int _) ha hb
/-! ### comparisons as tests -/
theorem st_test (h : SE K te de) : STt K (tTest te) (dTst de) := fun bo G0 H0 σ H G ε n P Q R hp k => h bo G0 H0 σ H G ε n _ _ R hp fun v G1 H1 d n1 g1 b1 p1 h1 => by
  obtain ⟨b, rfl, h1⟩ := h1
  cases p1
  exact ⟨b, rfl, k b G1 H1 n1 g1 b1 h1⟩
theorem dt_lt (ha : DE K X a ta da) (hb : DE K X b tb db) (hK : X.K = K := by rfl) : DT K X (.Compare a [.Lt] [b] pos) (tTest (tOp (rI0 fun i j => .bl (decide (i < j))) ta tb)) (dTst (dOp (fN fun i j => .bool (decide (i < j))) da db)) := by
  subst hK
  exact ⟨pt_cmpR op_lt ha.pe hb.pe (nomark _), st_test (de_lt (pos := pos) ha hb).se⟩
theorem dt_le (ha : DE K X a ta da) (hb : DE K X b tb db) (hK : X.K = K := by rfl) : DT K X (.Compare a [.LtE] [b] pos) (tTest (tOp (rI0 fun i j => .bl (decide (i ≤ j))) ta tb)) (dTst (dOp (fN fun i j => .bool (decide (i ≤ j))) da db)) := by
  subst hK
  exact ⟨pt_cmpR op_le ha.pe hb.pe (nomark _), st_test (de_le (pos := pos) ha hb).se⟩
theorem dt_gt (ha : DE K X a ta da) (hb : DE K X b tb db) (hK : X.K = K := by rfl) : DT K X (.Compare a [.Gt] [b] pos) (tTest (tOp (rI0 fun i j => .bl (decide (j < i))) ta tb)) (dTst (dOp (fN fun i j => .bool (decide (j < i))) da db)) := by
  subst hK
  exact ⟨pt_cmpR op_gt ha.pe hb.pe (nomark _), st_test (de_gt (pos := pos) ha hb).se⟩
theorem dt_ge (ha : DE K X a ta da) (hb : DE K X b tb db) (hK : X.K = K := by rfl) : DT K X (.Compare a [.GtE] [b] pos) (tTest (tOp (rI0 fun i j => .bl (decide (j ≤ i))) ta tb)) (dTst (dOp (fN fun i j => .bool (decide (j ≤ i))) da db)) := by
  subst hK
  exact ⟨pt_cmpR op_ge ha.pe hb.pe (nomark _), st_test (de_ge (pos := pos) ha hb).se⟩
theorem dt_eq (hu : X.A.units + 64 < cLine) (ha : DE K X a ta da) (hb : DE K X b tb db) (hK : X.K = K := by rfl) : DT K X (.Compare a [.Eq] [b] pos) (tTest (tOp (rEqD K) ta tb)) (dTst (dOp (fEq false) da db)) := by
  subst hK
  exact ⟨pt_cmpR (op_eqD hu) ha.pe hb.pe (nomark _), st_test (de_eq (pos := pos) hu ha hb).se⟩
theorem dt_ne (hu : X.A.units + 64 < cLine) (ha : DE K X a ta da) (hb : DE K X b tb db) (hK : X.K = K := by rfl) : DT K X (.Compare a [.NotEq] [b] pos) (tTest (tOp (rNeD K) ta tb)) (dTst (dOp (fEq true) da db)) := by
  subst hK
  exact ⟨pt_cmpR (op_neD hu) ha.pe hb.pe (nomark _), st_test (de_ne (pos := pos) hu ha hb).se⟩
theorem dt_isN (ha : DE K X a ta da) (hb : DE K X b tb db) (hK : X.K = K := by rfl) : DT K X (.Compare a [.Is] [b] pos) (tTest (tOp (fun x y H Q => y = .non ∧ Q (.bl (decide (x = .non))) H) ta tb)) (dTst (dOp (fIsN false) da db)) := by
  subst hK
  exact ⟨pt_cmpR op_isN ha.pe hb.pe (nomark _), st_test (de_isN (pos := pos) ha hb).se⟩
theorem dt_notN (ha : DE K X a ta da) (hb : DE K X b tb db) (hK : X.K = K := by rfl) : DT K X (.Compare a [.IsNot] [b] pos) (tTest (tOp (fun x y H Q => y = .non ∧ Q (.bl (!decide (x = .non))) H) ta tb)) (dTst (dOp (fIsN true) da db)) := by
  subst hK
  exact ⟨pt_cmpR op_notN ha.pe hb.pe (nomark _), st_test (de_notN (pos := pos) ha hb).se⟩
theorem dt_in {dq : DQt S} (ha : DE K X a ta da) (hb : DQ K X b tb dq) (hm : behindInMarks .In b = false := by rfl) (hK : X.K = K := by rfl) : DT K X (.Compare a [.In] [b] pos) (tTest (tOp (rIn K false) ta tb)) (dTst (dIn false da dq)) := by
  subst hK
  exact ⟨pt_cmpR op_in_seq ha.pe hb.pe hm, st_test (se_in false ha.se hb.se)⟩
theorem dt_notIn {dq : DQt S} (ha : DE K X a ta da) (hb : DQ K X b tb dq) (hm : behindInMarks .NotIn b = false := by rfl) (hK : X.K = K := by rfl) : DT K X (.Compare a [.NotIn] [b] pos) (tTest (tOp (rIn K true) ta tb)) (dTst (dIn true da dq)) := by
  subst hK
  exact ⟨pt_cmpR op_notIn_seq ha.pe hb.pe hm, st_test (se_in true ha.se hb.se)⟩
end
/-! ### walks by an invariant -/
theorem lc_ind {dg : DGt} {dt : DTt S} {de : DEt S} {ε : En} {P : List PyData → S → Prop} (I : Nat → List PyData → S → Prop) : ∀ (items acc : List PyData) (n : S) (i : Nat), I i acc n →
    (∀ j x acc n, items[j]? = some x → I (i + j) acc n → ∀ Y : List PyData → S → Prop, (∀ acc' n', I (i + j + 1) acc' n' → Y acc' n') → dg x ε fun ε' => dt ε' n fun b n1 => if b = true then de ε' n1 fun y n2 => Y (acc ++ [y]) n2 else Y acc n1) →
    (∀ acc n, I (i + items.length) acc n → P acc n) → lcRun dg dt de ε P items acc n
  | [], acc, n, i, h0, hs, hd => hd acc n h0
  | x :: r, acc, n, i, h0, hs, hd => by
    refine hs 0 x acc n rfl h0 (fun acc n => lcRun dg dt de ε P r acc n) fun acc' n' h' => ?_
    refine lc_ind I r acc' n' (i + 1) h' (fun j y acc n hj hI Y hY => ?_) (fun acc n hI => ?_)
    · refine hs (j + 1) y acc n (by simpa using hj) (by rw [Nat.add_assoc, Nat.add_comm 1 j] at hI; exact hI) Y fun a m ha => hY a m ?_
      rw [show i + 1 + j + 1 = i + (j + 1) + 1 by omega]
      exact ha
    · refine hd acc n ?_
      rw [show i + (x :: r).length = i + 1 + r.length by rw [List.length_cons]; omega]
      exact hI
/-- a comprehension that takes no draws -/
theorem lc_pure {dg : DGt} {dt : DTt S} {de : DEt S} {ε : En} {P : List PyData → S → Prop} (g : PyData → Option PyData) (n : S) : ∀ (items acc : List PyData),
    (∀ x ∈ items, ∀ (acc : List PyData) (Y : List PyData → S → Prop), Y (acc ++ (g x).toList) n → dg x ε fun ε' => dt ε' n fun b n1 => if b = true then de ε' n1 fun y n2 => Y (acc ++ [y]) n2 else Y acc n1) →
    P (acc ++ items.filterMap g) n → lcRun dg dt de ε P items acc n
  | [], acc, hs, hd => by
    rw [List.filterMap_nil, List.append_nil] at hd
    exact hd
  | x :: r, acc, hs, hd => by
    refine hs x List.mem_cons_self acc (fun acc n => lcRun dg dt de ε P r acc n) (lc_pure g n r _ (fun y hy => hs y (List.mem_cons_of_mem _ hy)) ?_)
    rw [List.filterMap_cons] at hd
    cases q : g x with
    | none =>
      rw [q] at hd
      simpa using hd
    | some y =>
      rw [q] at hd
      simpa using hd
theorem lc_map {dg : DGt} {de : DEt S} {ε : En} {P : List PyData → S → Prop} (f : PyData → PyData) (n : S) (items : List PyData)
    (hs : ∀ x ∈ items, ∀ (Y : PyData → S → Prop), Y (f x) n → dg x ε fun ε' => de ε' n fun y n2 => Y y n2) (hd : P (items.map f) n) : lcRun dg dYes de ε P items [] n := by
  refine lc_pure (fun x => some (f x)) n items [] (fun x hx acc Y hY => ?_) ?_
  · exact hs x hx (fun y n2 => Y (acc ++ [y]) n2) (by simpa using hY)
  · rw [List.nil_append, List.filterMap_eq_map']
    exact hd
theorem for_ind {dg : DGt} {db : DSt S} {D : DEnds S} (I : Nat → En → S → Prop) : ∀ (items : List PyData) (ε : En) (n : S) (i : Nat), I i ε n →
    (∀ j x ε n, items[j]? = some x → I (i + j) ε n → ∀ Y : En → S → Prop, (∀ ε' n', I (i + j + 1) ε' n' → Y ε' n') → dg x ε fun ε' => db { D with nx := Y, ct := Y, bk := D.nx } ε' n) →
    (∀ ε n, I (i + items.length) ε n → D.nx ε n) → forRun dg db D items ε n
  | [], ε, n, i, h0, hs, hd => hd ε n h0
  | x :: r, ε, n, i, h0, hs, hd => by
    refine hs 0 x ε n rfl h0 (forRun dg db D r) fun ε' n' h' => ?_
    refine for_ind I r ε' n' (i + 1) h' (fun j y ε n hj hI Y hY => ?_) (fun ε n hI => ?_)
    · refine hs (j + 1) y ε n (by simpa using hj) (by rw [Nat.add_assoc, Nat.add_comm 1 j] at hI; exact hI) Y fun a m ha => hY a m ?_
      rw [show i + 1 + j + 1 = i + (j + 1) + 1 by omega]
      exact ha
    · refine hd ε n ?_
      rw [show i + (x :: r).length = i + 1 + r.length by rw [List.length_cons]; omega]
      exact hI
end DL

set_option Elab.async false
set_option linter.all false
set_option autoImplicit false
set_option maxRecDepth 100000
namespace DL
open PySem PySem.Spec PyProof.Rows L2
theorem shaped_int (i : Int) : SeqAt.shaped (.int i) = true := rfl
theorem fEq_int (i j : Int) (C : PyData → Prop) : fEq false (.int i) (.int j) C = C (.bool (decide (i = j))) := by
  refine propext ⟨fun h => ?_, fun h => ⟨rfl, rfl, ?_⟩⟩
  · have h2 := h.2.2
    show C (.bool (decide (i = j)))
    rw [show decide (i = j) = PyData.eqv (.int i) (.int j) from by rw [PyData.eqv, Bool.beq_eq_decide_eq]]
    exact h2
  · show C (.bool (PyData.eqv (.int i) (.int j)))
    rw [PyData.eqv, Bool.beq_eq_decide_eq]
    exact h
theorem fNe_int (i j : Int) (C : PyData → Prop) : fEq true (.int i) (.int j) C = C (.bool (!decide (i = j))) := by
  refine propext ⟨fun h => ?_, fun h => ⟨rfl, rfl, ?_⟩⟩
  · have h2 := h.2.2
    show C (.bool (!decide (i = j)))
    rw [show decide (i = j) = PyData.eqv (.int i) (.int j) from by rw [PyData.eqv, Bool.beq_eq_decide_eq]]
    exact h2
  · show C (.bool (!PyData.eqv (.int i) (.int j)))
    rw [PyData.eqv, Bool.beq_eq_decide_eq]
    exact h
theorem rgD_get {m i : Nat} {x : PyData} (h : (rgD m)[i]? = some x) : i < m ∧ x = .int (i : Int) := by
  unfold rgD at h
  rw [List.getElem?_map] at h
  by_cases hi : i < m
  · rw [List.getElem?_range hi] at h
    exact ⟨hi, (Option.some.inj h).symm⟩
  · rw [List.getElem?_eq_none (by simpa using hi)] at h
    cases h
theorem rgD_length (m : Nat) : (rgD m).length = m := by
  unfold rgD
  rw [List.length_map, List.length_range]
theorem rgD_ints (m : Nat) : rgD m = ((List.range m).map fun (i : Nat) => (i : Int)).map PyData.int := by
  unfold rgD
  rw [List.map_map]
  rfl
/-- a list of data without texts and dicts, at most three deep -/
theorem canAll_iff : ∀ ds : List PyData, PyData.canLayAll0 ds = true ↔ ∀ d ∈ ds, PyData.canLay0 d = true
  | [] => by simp [PyData.canLayAll0]
  | d :: r => by
    simp only [PyData.canLayAll0, Bool.and_eq_true, canAll_iff r, List.mem_cons, forall_eq_or_imp]
theorem depthAll_le {k : Nat} : ∀ ds : List PyData, (∀ d ∈ ds, PyData.depth d ≤ k) → PyData.depthAll ds ≤ k
  | [], _ => Nat.zero_le _
  | d :: r, h => by
    have h1 := h d List.mem_cons_self
    have h2 := depthAll_le r fun x hx => h x (List.mem_cons_of_mem _ hx)
    simp only [PyData.depthAll]
    omega
/-- flat, and so many deep at most -/
def Shp (k : Nat) (d : PyData) : Prop := PyData.canLay0 d = true ∧ PyData.depth d ≤ k
theorem Shp.ok {k : Nat} {d : PyData} (h : Shp k d) (hk : k ≤ 64) : SeqAt.shaped d = true := by
  unfold SeqAt.shaped
  rw [h.1, Bool.true_and, decide_eq_true_eq]
  exact Nat.le_trans h.2 hk
theorem Shp.int (i : Int) : Shp 0 (.int i) := ⟨rfl, Nat.le_refl _⟩
theorem Shp.bool (i : Bool) : Shp 0 (.bool i) := ⟨rfl, Nat.le_refl _⟩
theorem Shp.none : Shp 0 .none := ⟨rfl, Nat.le_refl _⟩
theorem Shp.mono {j k : Nat} {d : PyData} (h : Shp j d) (hk : j ≤ k) : Shp k d := ⟨h.1, Nat.le_trans h.2 hk⟩
theorem Shp.list {k : Nat} {ds : List PyData} (h : ∀ d ∈ ds, Shp k d) : Shp (k + 1) (.list ds) :=
  ⟨by show PyData.canLayAll0 ds = true; exact (canAll_iff ds).mpr fun d hd => (h d hd).1, by show PyData.depthAll ds + 1 ≤ k + 1; have := depthAll_le ds fun d hd => (h d hd).2; omega⟩
theorem Shp.tuple {k : Nat} {ds : List PyData} (h : ∀ d ∈ ds, Shp k d) : Shp (k + 1) (.tuple ds) :=
  ⟨by show PyData.canLayAll0 ds = true; exact (canAll_iff ds).mpr fun d hd => (h d hd).1, by show PyData.depthAll ds + 1 ≤ k + 1; have := depthAll_le ds fun d hd => (h d hd).2; omega⟩
theorem eqv_nil (ds : List PyData) : PyData.eqv (.list ds) (.list []) = ds.isEmpty := by
  cases ds <;> simp [PyData.eqv, PyData.eqvAll]
end DL
namespace DL
open PySem PySem.Spec PyProof.Rows L2
theorem fI_int (C : Int → Int → Prop) (g : Int → Int → PyData) (i j : Int) (P : PyData → Prop) : fI C g (.int i) (.int j) P = (C i j ∧ P (g i j)) := rfl
theorem fPlus_ii (i j : Int) (C : PyData → Prop) : fPlus (.int i) (.int j) C = C (.int (i + j)) := rfl
theorem fPlus_ll (xs ys : List PyData) (C : PyData → Prop) : fPlus (.list xs) (.list ys) C = (xs.length + ys.length ≤ 100000 ∧ C (.list (xs ++ ys))) := rfl
theorem fPlus_tt (xs ys : List PyData) (C : PyData → Prop) : fPlus (.tuple xs) (.tuple ys) C = (xs.length + ys.length ≤ 100000 ∧ C (.tuple (xs ++ ys))) := rfl
theorem fPlus_ss (x y : Str) (C : PyData → Prop) : fPlus (.str x) (.str y) C = (x.length + y.length ≤ 100000 ∧ C (.str (x ++ y))) := rfl
theorem fTimes_ii (i j : Int) (C : PyData → Prop) : fTimes (.int i) (.int j) C = (CMul i j ∧ C (.int (i * j))) := rfl
theorem fTimes_li (xs : List PyData) (j : Int) (C : PyData → Prop) : fTimes (.list xs) (.int j) C = (0 ≤ j ∧ j ≤ 100000 ∧ xs.length * j.toNat ≤ 100000 ∧ C (.list (List.replicate j.toNat xs).flatten)) := rfl
theorem fIx_int (ds : List PyData) (i : Int) (C : PyData → Prop) : fIx ds (.int i) C = ∃ d, atI ds i = some d ∧ C d := rfl
theorem tuple_inj {a b : List PyData} : (PyData.tuple a = PyData.tuple b) = (a = b) := propext ⟨fun h => by cases h; rfl, fun h => by rw [h]⟩
end DL

set_option Elab.async false
set_option linter.all false
set_option autoImplicit false
set_option maxRecDepth 100000
namespace DL
open PySem PySem.Spec PyProof.Rows L2
variable {S : Type} [MSt S]
/-- data of so many levels, no list longer than 50000 -/
def Okd : Nat → PyData → Prop
  | 0, d => Shp 0 d
  | k + 1, d => Shp 0 d ∨ ∃ ds, (d = .list ds ∨ d = .tuple ds) ∧ ds.length ≤ 50000 ∧ ∀ x ∈ ds, Okd k x
theorem Okd.shp : ∀ {k : Nat} {d : PyData}, Okd k d → Shp k d
  | 0, _, h => h
  | k + 1, d, h => by
    rcases h with h | ⟨ds, e, _, h⟩
    · exact h.mono (Nat.zero_le _)
    · rcases e with rfl | rfl
      · exact Shp.list fun x hx => Okd.shp (h x hx)
      · exact Shp.tuple fun x hx => Okd.shp (h x hx)
theorem Okd.up : ∀ {k : Nat} {d : PyData}, Okd k d → Okd (k + 1) d
  | 0, _, h => .inl h
  | k + 1, d, h => by
    rcases h with h | ⟨ds, e, hl, h⟩
    · exact .inl h
    · exact .inr ⟨ds, e, hl, fun x hx => Okd.up (h x hx)⟩
theorem Okd.mono {j k : Nat} {d : PyData} (h : Okd j d) (hk : j ≤ k) : Okd k d := by
  induction k with
  | zero =>
    have e : j = 0 := by omega
    subst e
    exact h
  | succ k ih =>
    by_cases e : j = k + 1
    · subst e
      exact h
    · exact (ih (by omega)).up
theorem Okd.scal {k : Nat} {d : PyData} (h : Shp 0 d) : Okd k d := Okd.mono (j := 0) h (Nat.zero_le _)
theorem Okd.int {k : Nat} (i : Int) : Okd k (.int i) := Okd.scal (Shp.int i)
theorem Okd.bool {k : Nat} (i : Bool) : Okd k (.bool i) := Okd.scal (Shp.bool i)
theorem Okd.none {k : Nat} : Okd k .none := Okd.scal Shp.none
theorem Okd.list {k : Nat} {ds : List PyData} (hl : ds.length ≤ 50000) (h : ∀ x ∈ ds, Okd k x) : Okd (k + 1) (.list ds) := .inr ⟨ds, .inl rfl, hl, h⟩
theorem Okd.tuple {k : Nat} {ds : List PyData} (hl : ds.length ≤ 50000) (h : ∀ x ∈ ds, Okd k x) : Okd (k + 1) (.tuple ds) := .inr ⟨ds, .inr rfl, hl, h⟩
theorem Okd.ofList {k : Nat} {ds : List PyData} (h : Okd k (.list ds)) : ∃ j, k = j + 1 ∧ ds.length ≤ 50000 ∧ ∀ x ∈ ds, Okd j x := by
  cases k with
  | zero =>
    have h2 : PyData.depthAll ds + 1 ≤ 0 := h.2
    omega
  | succ j =>
    rcases h with h | ⟨es, e, hl, h⟩
    · have h2 : PyData.depthAll ds + 1 ≤ 0 := h.2
      omega
    · rcases e with e | e
      · cases e
        exact ⟨j, rfl, hl, h⟩
      · cases e
theorem Okd.ofTuple {k : Nat} {ds : List PyData} (h : Okd k (.tuple ds)) : ∃ j, k = j + 1 ∧ ds.length ≤ 50000 ∧ ∀ x ∈ ds, Okd j x := by
  cases k with
  | zero =>
    have h2 : PyData.depthAll ds + 1 ≤ 0 := h.2
    omega
  | succ j =>
    rcases h with h | ⟨es, e, hl, h⟩
    · have h2 : PyData.depthAll ds + 1 ≤ 0 := h.2
      omega
    · rcases e with e | e
      · cases e
      · cases e
        exact ⟨j, rfl, hl, h⟩
theorem eqv_self {k : Nat} {d : PyData} (h : Okd k d) : PyData.eqv d d = true := SeqAt.eqv_refl d h.shp.1
theorem fEq_self {k : Nat} {d : PyData} {C : PyData → Prop} (h : Okd k d) (hk : k ≤ 64) (hc : C (.bool true)) : fEq false d d C := ⟨h.shp.ok hk, h.shp.ok hk, by
  show C (.bool (PyData.eqv d d))
  rw [eqv_self h]
  exact hc⟩
theorem fNe_self {k : Nat} {d : PyData} {C : PyData → Prop} (h : Okd k d) (hk : k ≤ 64) (hc : C (.bool false)) : fEq true d d C := ⟨h.shp.ok hk, h.shp.ok hk, by
  show C (.bool (!PyData.eqv d d))
  rw [eqv_self h]
  exact hc⟩
/-- a def of which nothing is asked -/
theorem Kf.none {P : Program} {w : World} {K : PySem.W.Frag} {mg : Str → Option Value} {base : Heap} {x : Str} {m : Nat} {f : Addr} {fd : FuncData} {ps : List Str} (k : Nat) (hp : ps.length = m) (g : mg x = some (.ref f)) (kp : PySem.W.keepIn K (.ref f) = true) (b : Binds K fd ps []) : Kf P w K mg base x k m (fun _ (_ : S) _ => False) :=
  ⟨⟨f, fd, ps, ⟨fun vs H Q E h => by
      obtain ⟨_, _, _, _, _, _, _, _, _, _, h, _⟩ := h
      exact h.elim, fun A outer s H args us vs Q E _ _ _ _ h => by
      obtain ⟨_, _, _, _, _, _, _, _, _, _, h, _⟩ := h
      exact h.elim⟩, g, kp, b⟩⟩
end DL

set_option Elab.async false
set_option linter.all false
set_option autoImplicit false
set_option maxRecDepth 100000
namespace DL
open PySem PySem.Spec PyProof.Rows L2 PySem.W
variable {S : Type} [MSt S]
/-! min and max of two things by their data -/
section
variable {prog : Program} {w : World} {A : Around} {E : Value → Shared → Prop} {s : Shared}
theorem two_min {a b : Value} {x y : PyData} {as : List Addr} {Q : Value → Shared → Prop} (hh : A.handled = none) (hr : ReadsAll s.heap [a, b] [x, y] as) (ha : AlikeAll [x, y]) (hu : A.units + 1 + PyData.depthAll [x, y] < cLine)
    (q : ∀ h' tk, (∀ c o, s.heap.get? c = some o → h'.get? c = some o) → Q (if dataLt y x then b else a) { s with heap := h', toks := tk }) :
    wpAny (model prog w) A (call (.builtin "min") [a, b]) Q E s := by
  have nm : (toString "min" ++ toString ".loop" : String) = "min.loop" := by decide
  have hT : (s.heap.push { cls := .type "tuple", data := .seq #[a, b] }).IsTuple s.heap.objs.size #[a, b] := ⟨_, Heap.get?_push_size _ rfl, rfl, 0, rfl⟩
  refine call_function_tree F.kind_min F.plain_min F.entry_min (F.args_min2 _ _) ?_
  refine wpAny_bind (wpAny_of_eq (show Builtin.Builtins.bindParams "min" ["key", "default"] 0 ⟨[], []⟩ = pure [none, none] from rfl) ?_)
  show wpAny _ A.in1 (newTuple [a, b] >>= _) _ _ s
  refine wpAny_bind (wpAny_newObj_type (wpAny_bind (iter_tupleW (s := { s with heap := s.heap.push { cls := .type "tuple", data := .seq #[a, b] } }) (A := A.in1) hh hT fun s2 e W st hfp hw hkp => ?_)))
  refine wpAny_bind (wpAny_newObj_type ?_)
  rw [nm]
  have kp : ∀ c o, s.heap.get? c = some o → s2.heap.get? c = some o := fun c o z => hkp c o (Heap.get?_push_of_some _ z)
  refine wpAny_pure ⟨plainId_quiet F.plain_min_loop _, codeAny_min_loop_firstH W s.heap (fun c o z => hw c o (Heap.get?_push_of_some _ z)) (fun i j => dataLt ([x, y].getD i .none) ([x, y].getD j .none)) (cmpIn_lt (A := A.in1) (vs := #[a, b]) hr ha hu) s2.heap.objs.size (fun hm => Nat.lt_irrefl _ (hfp _ hm)) (fresh_in kp) _ (Nat.zero_lt_succ 1) (fun c o z => Heap.get?_push_of_some _ (kp c o z)) (W.frame 0 s2 _ s2.toks st (Nat.le_refl _) fun c _ o z => Heap.get?_push_of_some _ z) (Heap.get?_push_size _ rfl) fun v s' hP hm => ?_⟩
  obtain ⟨h', tk, rfl, hk'⟩ := moved_old (s := { s with heap := s.heap.push { cls := .type "tuple", data := .seq #[a, b] } }) e rfl (Moved.drop_new (tk := s2.toks) hm (Nat.le_refl _))
  have r := q h' tk fun c o z => hk' c o (Heap.get?_push_of_some _ z)
  have hv : v = if dataLt y x then b else a := by
    cases hc : dataLt y x <;> simp [argBest, hc] at hP <;> simp [hP]
  rw [hv]; exact r
theorem two_max {a b : Value} {x y : PyData} {as : List Addr} {Q : Value → Shared → Prop} (hh : A.handled = none) (hr : ReadsAll s.heap [a, b] [x, y] as) (ha : AlikeAll [x, y]) (hu : A.units + 1 + PyData.depthAll [x, y] < cLine)
    (q : ∀ h' tk, (∀ c o, s.heap.get? c = some o → h'.get? c = some o) → Q (if dataLt x y then b else a) { s with heap := h', toks := tk }) :
    wpAny (model prog w) A (call (.builtin "max") [a, b]) Q E s := by
  have nm : (toString "max" ++ toString ".loop" : String) = "max.loop" := by decide
  have hT : (s.heap.push { cls := .type "tuple", data := .seq #[a, b] }).IsTuple s.heap.objs.size #[a, b] := ⟨_, Heap.get?_push_size _ rfl, rfl, 0, rfl⟩
  refine call_function_tree F.kind_max F.plain_max F.entry_max (F.args_max2 _ _) ?_
  refine wpAny_bind (wpAny_of_eq (show Builtin.Builtins.bindParams "max" ["key", "default"] 0 ⟨[], []⟩ = pure [none, none] from rfl) ?_)
  show wpAny _ A.in1 (newTuple [a, b] >>= _) _ _ s
  refine wpAny_bind (wpAny_newObj_type (wpAny_bind (iter_tupleW (s := { s with heap := s.heap.push { cls := .type "tuple", data := .seq #[a, b] } }) (A := A.in1) hh hT fun s2 e W st hfp hw hkp => ?_)))
  refine wpAny_bind (wpAny_newObj_type ?_)
  rw [nm]
  have kp : ∀ c o, s.heap.get? c = some o → s2.heap.get? c = some o := fun c o z => hkp c o (Heap.get?_push_of_some _ z)
  refine wpAny_pure ⟨plainId_quiet F.plain_max_loop _, codeAny_max_loop_firstH W s.heap (fun c o z => hw c o (Heap.get?_push_of_some _ z)) (fun i j => dataLt ([x, y].getD j .none) ([x, y].getD i .none)) (cmpIn_gt (A := A.in1) (vs := #[a, b]) hr ha hu) s2.heap.objs.size (fun hm => Nat.lt_irrefl _ (hfp _ hm)) (fresh_in kp) _ (Nat.zero_lt_succ 1) (fun c o z => Heap.get?_push_of_some _ (kp c o z)) (W.frame 0 s2 _ s2.toks st (Nat.le_refl _) fun c _ o z => Heap.get?_push_of_some _ z) (Heap.get?_push_size _ rfl) fun v s' hP hm => ?_⟩
  obtain ⟨h', tk, rfl, hk'⟩ := moved_old (s := { s with heap := s.heap.push { cls := .type "tuple", data := .seq #[a, b] } }) e rfl (Moved.drop_new (tk := s2.toks) hm (Nat.le_refl _))
  have r := q h' tk fun c o z => hk' c o (Heap.get?_push_of_some _ z)
  have hv : v = if dataLt x y then b else a := by
    cases hc : dataLt x y <;> simp [argBest, hc] at hP <;> simp [hP]
  rw [hv]; exact r
end
section
variable {X : Cx}
theorem two_room {x y : PyData} (hx : SeqAt.shaped x = true) (hy : SeqAt.shaped y = true) : PyData.depthAll [x, y] ≤ 64 := by
  have h1 := SeqAt.depth_of_shaped hx
  have h2 := SeqAt.depth_of_shaped hy
  simp only [PyData.depthAll]
  omega
def rTwo (K : PySem.W.Frag) (big : Bool) : List V → Hp → VK → Prop := fun xs H Q => ∃ x y d e, xs = [x, y] ∧ L2.Dp K H x d ∧ L2.Dp K H y e ∧ SeqAt.shaped d = true ∧ SeqAt.shaped e = true ∧ AlikeAll [d, e] ∧ Q (if (if big then dataLt d e else dataLt e d) then y else x) H
theorem call_two_min (hc : X.calm = true) (hu : X.A.units + 65 < cLine) : CallR X (.builtin "min") (rTwo X.K false) := by
  intro pins s σ H xs us Q I r h
  obtain ⟨x, y, d, e, rfl, hd, he, sd, se, al, q⟩ := h
  obtain ⟨u, w', rfl, r1, r2⟩ := vals2 r
  obtain ⟨as, ra⟩ := L2.Dp.readsAll I [d, e] [x, y] [u, w'] (.cons hd (.cons he .nil)) (.cons r1 (.cons r2 .nil))
  have := two_room sd se
  refine two_min (I.ok.hd hc) ra al (by omega) fun h' tk k => ⟨_, H, I.kept k, ?_, q⟩
  simp only [Bool.false_eq_true, if_false]
  by_cases hj : dataLt e d = true
  · rw [if_pos hj, if_pos hj]; exact r2
  · rw [if_neg hj, if_neg hj]; exact r1
theorem call_two_max (hc : X.calm = true) (hu : X.A.units + 65 < cLine) : CallR X (.builtin "max") (rTwo X.K true) := by
  intro pins s σ H xs us Q I r h
  obtain ⟨x, y, d, e, rfl, hd, he, sd, se, al, q⟩ := h
  obtain ⟨u, w', rfl, r1, r2⟩ := vals2 r
  obtain ⟨as, ra⟩ := L2.Dp.readsAll I [d, e] [x, y] [u, w'] (.cons hd (.cons he .nil)) (.cons r1 (.cons r2 .nil))
  have := two_room sd se
  refine two_max (I.ok.hd hc) ra al (by omega) fun h' tk k => ⟨_, H, I.kept k, ?_, q⟩
  simp only [if_true]
  by_cases hj : dataLt d e = true
  · rw [if_pos hj, if_pos hj]; exact r2
  · rw [if_neg hj, if_neg hj]; exact r1

theorem un65 {k : Nat} {A : Around} (r : Room k A) : A.units + 65 < cLine := by have := r.un; omega
variable {K : PySem.W.Frag} {a b : Expr} {ta tb : TE} {da db : DEt S} {pos p : Pos}
omit [MSt S] in
def dTwo (big : Bool) (da db : DEt S) : DEt S := fun ε n P => da ε n fun x n1 => db ε n1 fun y n2 => SeqAt.shaped x = true ∧ SeqAt.shaped y = true ∧ AlikeAll [x, y] ∧ P (if (if big then dataLt x y else dataLt y x) then y else x) n2
theorem se_two (big : Bool) (ha : SE K ta da) (hb : SE K tb db) : SE K (tCB (rTwo K big) (tCons ta (tCons tb tNil))) (dTwo big da db) := fun bo G0 H0 σ H G ε n P Q R hp k =>
  ha bo G0 H0 σ H G ε n _ _ R hp fun x G1 H1 dx n1 g1 b1 p1 h1 =>
  hb bo G0 H0 σ H1 G1 ε n1 _ _ (R.grow g1 b1) h1 fun y G2 H2 dy n2 g2 b2 p2 h2 =>
  ⟨x, y, dx, dy, rfl, (dp_mono g2.gh (dp_mono g2.gg p1)).l2, (dp_mono g2.gh p2).l2, h2.1, h2.2.1, h2.2.2.1, by
    have h3 := h2.2.2.2
    by_cases hj : (if big then dataLt dx dy else dataLt dy dx) = true
    · rw [if_pos hj] at h3 ⊢; exact k _ G2 H2 _ n2 (g1.trans b1 g2) b2 p2 h3
    · rw [if_neg hj] at h3 ⊢; exact k _ G2 H2 _ n2 (g1.trans b1 g2) b2 (dp_mono g2.gg p1) h3⟩
theorem de_min2 (hc : X.calm = true) (hu : X.A.units + 65 < cLine) (hg : Gl X "min") (hm : X.mg "min" = none) (ha : DE K X a ta da) (hb : DE K X b tb db) (he : starEach (a :: [b]) X.env = (false, eval a X.env) :: starEach [b] X.env := by rfl) (he2 : starEach (b :: []) X.env = (false, eval b X.env) :: starEach [] X.env := by rfl) (hpl : (backTo pos (starEach [b] X.env)).any (·.1) = false := by rfl) (hK : X.K = K := by rfl) :
    DE K X (.Call (.Name "min" p) [a, b] [] pos) (tCB (rTwo K false) (tCons ta (tCons tb tNil))) (dTwo false da db) := by
  subst hK
  exact ⟨pe_callB (call_two_min hc hu) hg hm boot_min (pa_cons ha.pe (pa_cons hb.pe pa_nil he2) he) (by decide) (by decide) he hpl, se_two false ha.se hb.se⟩
theorem de_max2 (hc : X.calm = true) (hu : X.A.units + 65 < cLine) (hg : Gl X "max") (hm : X.mg "max" = none) (ha : DE K X a ta da) (hb : DE K X b tb db) (he : starEach (a :: [b]) X.env = (false, eval a X.env) :: starEach [b] X.env := by rfl) (he2 : starEach (b :: []) X.env = (false, eval b X.env) :: starEach [] X.env := by rfl) (hpl : (backTo pos (starEach [b] X.env)).any (·.1) = false := by rfl) (hK : X.K = K := by rfl) :
    DE K X (.Call (.Name "max" p) [a, b] [] pos) (tCB (rTwo K true) (tCons ta (tCons tb tNil))) (dTwo true da db) := by
  subst hK
  exact ⟨pe_callB (call_two_max hc hu) hg hm boot_max (pa_cons ha.pe (pa_cons hb.pe pa_nil he2) he) (by decide) (by decide) he hpl, se_two true ha.se hb.se⟩

/-! < and > and <= and >= by data -/
def rCmp (K : PySem.W.Frag) (g : PyData → PyData → Bool) : R2 := fun x y H Q => ∃ d e, L2.Dp K H x d ∧ L2.Dp K H y e ∧ SeqAt.shaped d = true ∧ W.alike d e = true ∧ d ≠ .none ∧ Q (.bl (g d e)) H
def fCmp (g : PyData → PyData → Bool) : F2 := fun x y C => SeqAt.shaped x = true ∧ W.alike x y = true ∧ x ≠ .none ∧ C (.bool (g x y))
theorem ops_cmp (g : PyData → PyData → Bool) : OpS K (rCmp K g) (fCmp g) := fun G H x y dx dy C Q s hx hy h k => ⟨dx, dy, (dp_mono s hx).l2, (dp_mono s hy).l2, h.1, h.2.1, h.2.2.1, k _ G H _ (Grow.refl s) (.bl _) h.2.2.2⟩
theorem op_ltD (hu : X.A.units + 64 < cLine) : OpR X (compareOp .Lt) (rCmp X.K fun d e => dataLt d e) := by
  intro pins s σ H x y v u Q I rx ry h
  obtain ⟨d, e, hd, he, sd, al, nn, q⟩ := h
  obtain ⟨as, r1⟩ := L2.Dp.reads I d x v hd rx
  obtain ⟨bs, r2⟩ := L2.Dp.reads I e y u he ry
  exact lt_data r1 r2 al nn (SeqAt.room_of_shaped sd hu) ⟨.bl _, H, I, rfl, q⟩
theorem op_gtD (hu : X.A.units + 64 < cLine) : OpR X (compareOp .Gt) (rCmp X.K fun d e => dataLt e d) := by
  intro pins s σ H x y v u Q I rx ry h
  obtain ⟨d, e, hd, he, sd, al, nn, q⟩ := h
  obtain ⟨as, r1⟩ := L2.Dp.reads I d x v hd rx
  obtain ⟨bs, r2⟩ := L2.Dp.reads I e y u he ry
  exact gt_data r1 r2 al nn (SeqAt.room_of_shaped sd hu) ⟨.bl _, H, I, rfl, q⟩
theorem op_leD (hu : X.A.units + 64 < cLine) : OpR X (compareOp .LtE) (rCmp X.K fun d e => !dataLt e d) := by
  intro pins s σ H x y v u Q I rx ry h
  obtain ⟨d, e, hd, he, sd, al, nn, q⟩ := h
  obtain ⟨as, r1⟩ := L2.Dp.reads I d x v hd rx
  obtain ⟨bs, r2⟩ := L2.Dp.reads I e y u he ry
  exact le_data r1 r2 al nn (SeqAt.room_of_shaped sd hu) ⟨.bl _, H, I, rfl, q⟩
theorem op_geD (hu : X.A.units + 64 < cLine) : OpR X (compareOp .GtE) (rCmp X.K fun d e => !dataLt d e) := by
  intro pins s σ H x y v u Q I rx ry h
  obtain ⟨d, e, hd, he, sd, al, nn, q⟩ := h
  obtain ⟨as, r1⟩ := L2.Dp.reads I d x v hd rx
  obtain ⟨bs, r2⟩ := L2.Dp.reads I e y u he ry
  exact ge_data r1 r2 al nn (SeqAt.room_of_shaped sd hu) ⟨.bl _, H, I, rfl, q⟩
theorem de_ltD (hu : X.A.units + 64 < cLine) (ha : DE K X a ta da) (hb : DE K X b tb db) (hK : X.K = K := by rfl) : DE K X (.Compare a [.Lt] [b] pos) (tOp (rCmp K fun d e => dataLt d e) ta tb) (dOp (fCmp fun d e => dataLt d e) da db) := by
  subst hK
  exact de_cmp (op_ltD hu) (ops_cmp _) ha hb (nomark _)
theorem dt_ltD (hu : X.A.units + 64 < cLine) (ha : DE K X a ta da) (hb : DE K X b tb db) (hK : X.K = K := by rfl) : DT K X (.Compare a [.Lt] [b] pos) (tTest (tOp (rCmp K fun d e => dataLt d e) ta tb)) (dTst (dOp (fCmp fun d e => dataLt d e) da db)) := by
  subst hK
  exact ⟨pt_cmpR (op_ltD hu) ha.pe hb.pe (nomark _), st_test (de_ltD (pos := pos) hu ha hb).se⟩
theorem de_gtD (hu : X.A.units + 64 < cLine) (ha : DE K X a ta da) (hb : DE K X b tb db) (hK : X.K = K := by rfl) : DE K X (.Compare a [.Gt] [b] pos) (tOp (rCmp K fun d e => dataLt e d) ta tb) (dOp (fCmp fun d e => dataLt e d) da db) := by
  subst hK
  exact de_cmp (op_gtD hu) (ops_cmp _) ha hb (nomark _)
theorem dt_gtD (hu : X.A.units + 64 < cLine) (ha : DE K X a ta da) (hb : DE K X b tb db) (hK : X.K = K := by rfl) : DT K X (.Compare a [.Gt] [b] pos) (tTest (tOp (rCmp K fun d e => dataLt e d) ta tb)) (dTst (dOp (fCmp fun d e => dataLt e d) da db)) := by
  subst hK
  exact ⟨pt_cmpR (op_gtD hu) ha.pe hb.pe (nomark _), st_test (de_gtD (pos := pos) hu ha hb).se⟩
theorem de_leD (hu : X.A.units + 64 < cLine) (ha : DE K X a ta da) (hb : DE K X b tb db) (hK : X.K = K := by rfl) : DE K X (.Compare a [.LtE] [b] pos) (tOp (rCmp K fun d e => !dataLt e d) ta tb) (dOp (fCmp fun d e => !dataLt e d) da db) := by
  subst hK
  exact de_cmp (op_leD hu) (ops_cmp _) ha hb (nomark _)
theorem dt_leD (hu : X.A.units + 64 < cLine) (ha : DE K X a ta da) (hb : DE K X b tb db) (hK : X.K = K := by rfl) : DT K X (.Compare a [.LtE] [b] pos) (tTest (tOp (rCmp K fun d e => !dataLt e d) ta tb)) (dTst (dOp (fCmp fun d e => !dataLt e d) da db)) := by
  subst hK
  exact ⟨pt_cmpR (op_leD hu) ha.pe hb.pe (nomark _), st_test (de_leD (pos := pos) hu ha hb).se⟩
theorem de_geD (hu : X.A.units + 64 < cLine) (ha : DE K X a ta da) (hb : DE K X b tb db) (hK : X.K = K := by rfl) : DE K X (.Compare a [.GtE] [b] pos) (tOp (rCmp K fun d e => !dataLt d e) ta tb) (dOp (fCmp fun d e => !dataLt d e) da db) := by
  subst hK
  exact de_cmp (op_geD hu) (ops_cmp _) ha hb (nomark _)
theorem dt_geD (hu : X.A.units + 64 < cLine) (ha : DE K X a ta da) (hb : DE K X b tb db) (hK : X.K = K := by rfl) : DT K X (.Compare a [.GtE] [b] pos) (tTest (tOp (rCmp K fun d e => !dataLt d e) ta tb)) (dTst (dOp (fCmp fun d e => !dataLt d e) da db)) := by
  subst hK
  exact ⟨pt_cmpR (op_geD hu) ha.pe hb.pe (nomark _), st_test (de_geD (pos := pos) hu ha hb).se⟩

/-! is True, is False, of truths -/
def rIsB (neg : Bool) : R2 := fun x y H Q => ∃ c d, x = .bl c ∧ y = .bl d ∧ Q (.bl (if neg then c != d else c == d)) H
def fIsB (neg : Bool) : F2
  | .bool c, .bool d, P => P (.bool (if neg then c != d else c == d))
  | _, _, _ => False
theorem ops_isB (neg : Bool) : OpS K (rIsB neg) (fIsB neg) := fun G H x y dx dy C Q s hx hy h k => by
  cases hx with
  | bl i => cases hy with
    | bl j => exact ⟨i, j, rfl, rfl, k _ G H _ (Grow.refl s) (.bl _) h⟩
    | _ => exact h.elim
  | _ => exact h.elim
theorem op_isB : OpR X (compareOp .Is) (rIsB false) := by
  intro pins s σ H x y v u Q I rx ry h
  obtain ⟨c, d, rfl, rfl, q⟩ := h
  cases rx
  cases ry
  exact is_bool ⟨.bl _, H, I, rfl, q⟩
theorem op_notB : OpR X (compareOp .IsNot) (rIsB true) := by
  intro pins s σ H x y v u Q I rx ry h
  obtain ⟨c, d, rfl, rfl, q⟩ := h
  cases rx
  cases ry
  exact isnot_bool ⟨.bl _, H, I, rfl, q⟩
theorem de_isB (ha : DE K X a ta da) (hb : DE K X b tb db) (hK : X.K = K := by rfl) : DE K X (.Compare a [.Is] [b] pos) (tOp (rIsB false) ta tb) (dOp (fIsB false) da db) := by
  subst hK
  exact de_cmp op_isB (ops_isB _) ha hb (nomark _)
theorem de_notB (ha : DE K X a ta da) (hb : DE K X b tb db) (hK : X.K = K := by rfl) : DE K X (.Compare a [.IsNot] [b] pos) (tOp (rIsB true) ta tb) (dOp (fIsB true) da db) := by
  subst hK
  exact de_cmp op_notB (ops_isB _) ha hb (nomark _)
theorem dt_isB (ha : DE K X a ta da) (hb : DE K X b tb db) (hK : X.K = K := by rfl) : DT K X (.Compare a [.Is] [b] pos) (tTest (tOp (rIsB false) ta tb)) (dTst (dOp (fIsB false) da db)) := by
  subst hK
  exact ⟨pt_cmpR op_isB ha.pe hb.pe (nomark _), st_test (de_isB (pos := pos) ha hb).se⟩
theorem dt_notB (ha : DE K X a ta da) (hb : DE K X b tb db) (hK : X.K = K := by rfl) : DT K X (.Compare a [.IsNot] [b] pos) (tTest (tOp (rIsB true) ta tb)) (dTst (dOp (fIsB true) da db)) := by
  subst hK
  exact ⟨pt_cmpR op_notB ha.pe hb.pe (nomark _), st_test (de_notB (pos := pos) ha hb).se⟩
end
end DL

set_option Elab.async false
set_option linter.all false
set_option autoImplicit false
set_option maxRecDepth 100000
namespace DL
open PySem PySem.Spec PyProof.Rows L2
variable {S : Type} [MSt S]
/-! ### calls with keywords, calls that leave something out -/
theorem AgsR.app {K : PySem.W.Frag} {bo : Option Bo} {G : Hp} : ∀ {vs : List V} {as : List Ag} {us : List V} {bs : List Ag}, AgsR K bo G vs as → AgsR K bo G us bs → AgsR K bo G (vs ++ us) (as ++ bs)
  | _, _, _, _, .nil, t => t
  | _, _, _, _, .cons h r, t => .cons h (AgsR.app r t)
/-- left out: the values ds, das by their data -/
structure Kd (P : Program) (w : World) (K : PySem.W.Frag) (mg : Str → Option Value) (base : Heap) (x : Str) (k m : Nat) (con : ConS S) (dvs : List V) (das : List Ag) : Prop where
  ex : ∃ (f : Addr) (fd : FuncData) (ps : List Str) (ds : List Value), FnOk P w K mg base CX0 k f fd ps (spD K m con) ∧ mg x = some (.ref f) ∧ PySem.W.keepIn K (.ref f) = true ∧ Binds K fd ps ds ∧ Vals dvs ds ∧ ∀ bo G, AgsR K bo G dvs das
/-- n by place, those named ks by name -/
structure Kw (P : Program) (w : World) (K : PySem.W.Frag) (mg : Str → Option Value) (base : Heap) (x : Str) (k m : Nat) (con : ConS S) (n : Nat) (ks : List Str) (gV : List V → List V → List V) (gA : List Ag → List Ag → List Ag) : Prop where
  ex : ∃ (f : Addr) (fd : FuncData) (ps : List Str) (g : List Value → List Value → List Value), FnOk P w K mg base CX0 k f fd ps (spD K m con) ∧ mg x = some (.ref f) ∧ PySem.W.keepIn K (.ref f) = true ∧ KBn K fd ps n ks g gV ∧
    ∀ bo G vs as zs bs, AgsR K bo G vs as → AgsR K bo G zs bs → as.length = n → bs.length = ks.length → AgsR K bo G (gV vs zs) (gA as bs)
omit [MSt S] in
def dCallD (m : Nat) (con : ConS S) (das : List Ag) (da : DAt S) : DEt S := fun ε n P => da ε n fun as n1 => (as ++ das).length = m ∧ con (as ++ das) n1 P
omit [MSt S] in
def dCallK (m : Nat) (con : ConS S) (k j : Nat) (gA : List Ag → List Ag → List Ag) (da dk : DAt S) : DEt S := fun ε n P => da ε n fun as n1 => dk ε n1 fun bs n2 => as.length = k ∧ bs.length = j ∧ (gA as bs).length = m ∧ con (gA as bs) n2 P
structure DK (K : PySem.W.Frag) (X : Cx) (e : List Keyword) (te : TA) (de : DAt S) : Prop where
  pk : PK X e te
  se : SA K te de
section
variable {X : Cx} {K : PySem.W.Frag} {x : Str} {k m : Nat} {con : ConS S} {e : Expr} {es : List Expr} {ta tk : TA} {da dk : DAt S} {te : TE} {de : DEt S} {p pos kpos : Pos} {das : List Ag} {nm : Option Str} {kws : List Keyword}
theorem dk_nil (hK : X.K = K := by rfl) : DK K X [] tNil (dNil (S := S)) := by
  subst hK
  exact ⟨pk_nil, fun bo G0 H0 σ H G ε n P Q R hp k => k [] G H [] n (Grow.refl R.gh) R.bx .nil hp⟩
theorem dk_cons (ha : DE K X e te de) (hr : DK K X kws tk dk) (hK : X.K = K := by rfl) : DK K X (⟨nm, e, kpos⟩ :: kws) (tCons te tk) (dCons de dk) := by
  subst hK
  exact ⟨pk_cons ha.pe hr.pk, fun bo G0 H0 σ H G ε n P Q R hp k => ha.se bo G0 H0 σ H G ε n _ _ R hp fun v G1 H1 d n1 g1 b1 p1 h1 =>
      hr.se bo G0 H0 σ H1 G1 ε n1 _ _ (R.grow g1 b1) h1 fun vs G2 H2 as n2 g2 b2 p2 h2 => k _ G2 H2 _ n2 (g1.trans b1 g2) b2 (.cons (a := .im d) (dp_mono g2.gg p1) p2) h2⟩
theorem AgsR.up {K : PySem.W.Frag} {bo : Option Bo} {G G' : Hp} {vs : List V} {as : List Ag} (h : AgsR K bo G vs as) (e : Same G G') : AgsR K bo G' vs as := AgsR.mono e h
theorem de_callD {dvs : List V} (F : Kd X.prog X.w K X.mg X.base x k m con dvs das) (hr : Room k X.A) (hg : Gl X x) (h : DA K X (e :: es) ta da) (hdb : (x == ("__debug__" : Str)) = false := by decide)
    (he : starEach (e :: es) X.env = (false, eval e X.env) :: starEach es X.env := by rfl) (hpl : (backTo pos (starEach es X.env)).any (·.1) = false := by rfl) (hK : X.K = K := by rfl) :
    DE K X (.Call (.Name x p) (e :: es) [] pos) (tCall (spD K m con) dvs E0 ta) (dCallD m con das da) := by
  subst hK
  obtain ⟨f, fd, ps, ds, F1, F2, F3, F4, F5, F6⟩ := F.ex
  exact ⟨pe_call F1 hr hg F2 F3 F4 F5 pass0 h.pa hdb he hpl, fun bo G0 H0 σ H G ε n P Q R hp k =>
    h.se bo G0 H0 σ H G ε n _ _ R hp fun vs G1 H1 as n1 g1 b1 p1 h1 => by
      have R1 := R.grow g1 b1
      have p2 := p1.app (F6 bo G1)
      exact ⟨bo, G1, as ++ das, n1, P, (ags_len p2).trans h1.1, p2, g1.gh, b1, R1.gb, h1.2, fun v G' H' d n' g' b' p' h' => k v G' H' d n' (g1.trans b1 g') b' p' h'⟩⟩
theorem de_callK {n : Nat} {ks : List Str} {gV : List V → List V → List V} {gA : List Ag → List Ag → List Ag} (F : Kw X.prog X.w K X.mg X.base x k m con n ks gV gA) (hr : Room k X.A) (hg : Gl X x) (h : DA K X (e :: es) ta da) (hk : DK K X kws tk dk)
    (hall : (backToKw pos (keywordEach kws X.env)).all (·.1.isSome) = true := by rfl) (hks : (backToKw pos (keywordEach kws X.env)).filterMap (·.1) = ks := by rfl)
    (hdb : (x == ("__debug__" : Str)) = false := by decide) (he : starEach (e :: es) X.env = (false, eval e X.env) :: starEach es X.env := by rfl)
    (hpl : ((backTo pos (starEach (e :: es) X.env)).any (·.1) || (backToKw pos (keywordEach kws X.env)).any (·.1.isNone)) = false := by rfl) (hK : X.K = K := by rfl) :
    DE K X (.Call (.Name x p) (e :: es) kws pos) (tCallN n ks.length (spD K m con) gV E0 ta tk) (dCallK m con n ks.length gA da dk) := by
  subst hK
  obtain ⟨f, fd, ps, g, F1, F2, F3, F4, F5⟩ := F.ex
  exact ⟨pe_callN F1 hr hg F2 F3 F4 pass0 h.pa hk.pk hall hks hdb he hpl, fun bo G0 H0 σ H G ε nn P Q R hp k =>
    h.se bo G0 H0 σ H G ε nn _ _ R hp fun vs G1 H1 as n1 g1 b1 p1 h1 =>
    hk.se bo G0 H0 σ H1 G1 ε n1 _ _ (R.grow g1 b1) h1 fun zs G2 H2 bs n2 g2 b2 p2 h2 => by
      have R2 := (R.grow g1 b1).grow g2 b2
      have p3 := F5 bo G2 vs as zs bs (p1.up g2.gg) p2 h2.1 h2.2.1
      exact ⟨(ags_len p1).trans h2.1, (ags_len p2).trans h2.2.1, bo, G2, gA as bs, n2, P, (ags_len p3).trans h2.2.2.1, p3, g2.gh, b2, R2.gb, h2.2.2.2, fun v G' H' d n' g' b' p' h' => k v G' H' d n' ((g1.trans b1 g2).trans b2 g') b' p' h'⟩⟩
end
/-- a def with defaults: the same rule -/
theorem def_okD {P : Program} {w : World} {K : PySem.W.Frag} {mg : Str → Option Value} {base : Heap} {x qual : Str} {params : Arguments} {body : List Stmt} {scope : Scope} {dvs : List V} {kws : List (Str × V)} {f : Addr} {fd : FuncData} {N ps : List Str} {k m : Nat} {con : ConS S} (F : FunD K x qual params body scope dvs kws f fd) (Sc : FnScope N ps scope) (hm : ps.length = m)
    (h : ∀ (cdv : Value) (A : Around) (outer : List Env) (s : Shared) (H : Hp) (E : XK), Room k (A.deeper (envOfC qual scope s.heap.objs.size f cdv)) →
      ∃ ts ds, DSs K (cxOf CX0 P w K mg base N qual scope f cdv A outer s H E).nox body ts ds ∧ ∀ (as : List Ag) (n : S) (P : PyData → S → Prop), as.length = m → con as n P → ds { nx := fun _ n => P .none n, rt := P } (en0 N as) n) : FnOk P w K mg base CX0 (k + 1) f fd ps (spD K m con) := by
  refine F.ok Sc (fun vs H Q E h => ?_) (fun cdv A outer s H vs Q E hr hsp => ?_)
  · obtain ⟨_, _, _, _, _, q, _⟩ := h
    exact q.trans hm.symm
  · obtain ⟨bo, G, as, n, P', hl, ha, sg, hb, hgb, hc, kk⟩ := hsp
    obtain ⟨ts, ds, hD, hds⟩ := h cdv A outer s H E hr
    have hlen : as.length = m := (ags_len ha).symm.trans hl
    have hN : as.length ≤ N.length := by
      have := congrArg List.length Sc.pre
      rw [List.length_take] at this
      omega
    refine ⟨ts, hD.ps.nox, hD.ss bo G H (L2.start N vs) H G (en0 N as) n _ { nx := fun _ n => P' .none n, rt := P' } (rl_start hN ha sg hb hgb) ⟨fun σ H' G' ε n r q => kk .non G' H' .none n r.gr r.bx .non q, fun v G' H' d n g b p q => kk v G' H' d n g b p q, fun _ _ _ _ _ _ q => q.elim, fun _ _ _ _ _ _ q => q.elim, fun _ _ _ _ _ _ _ _ _ _ q => q.elim⟩ (hds as n P' hlen hc)⟩
/-! a, b = a list -/
def dgLst (m : Nat) (dgs : DGst) : DGt
  | .list ds, ε, C => ds.length = m ∧ dgs ds ε C
  | _, _, _ => False
theorem dg_lst {X : Cx} {K : PySem.W.Frag} {pos : Pos} {es : List Expr} {k : Nat} {t : TGs} {dgs : DGst} {ts : List Nat} {n : Nat} (hc : X.calm = true) (h : DGs K X es t dgs ts) (hn : (assignEach es X.env).length = n := by rfl) (hst : (assignEach es X.env).findIdx? (·.1) = none := by rfl) (hK : X.K = K := by rfl) :
    DG K X (.Tuple es k pos) (gLst K n t) (dgLst n dgs) ts := by
  subst hK
  exact ⟨pg_lst hc h.pg hn hst, fun bo G0 H0 σ H G ε m v d C Q r hd hcc kk => by
    cases hd with
    | lst s ha => exact ⟨_, _, rfl, .inl (.inl (r.gh _ _ s)), (dpa_len ha).trans hcc.1, h.sg bo G0 H0 σ H G ε m _ _ _ _ r ha hcc.2 kk⟩
    | _ => exact hcc.elim⟩
end DL

set_option Elab.async false
set_option linter.all false
set_option autoImplicit false
set_option maxRecDepth 100000
namespace DL
open PySem PySem.Spec PyProof.Rows L2
variable {S : Type} [MSt S]
/-! ### new things of one's own -/
abbrev DNt (S : Type) := En → S → (Own → S → Prop) → Prop
abbrev DMt (S : Type) := En → S → (List Own → S → Prop) → Prop
/-- new places: not there ahead, kept out of what stands still -/
def New (H G' : Hp) (f : List Addr) : Prop := ∀ a ∈ f, H a = none ∧ G' a = none
def SN (K : PySem.W.Frag) (te : TE) (dn : DNt S) : Prop := ∀ (bo : Option Bo) (G0 H0 : Hp) (σ : L2.St) (H G : Hp) (ε : En) (n : S) (P : Own → S → Prop) (Q : VK), Rl K bo G0 H0 σ H G ε n → dn ε n P →
  (∀ v G' H' o f n', Grow bo G H G' H' → BoxO K G' H' bo n' → OwR K G' H' v o f → New H G' f → P o n' → Q v H') → te σ H Q
def SM (K : PySem.W.Frag) (ta : TA) (dm : DMt S) : Prop := ∀ (bo : Option Bo) (G0 H0 : Hp) (σ : L2.St) (H G : Hp) (ε : En) (n : S) (P : List Own → S → Prop) (Q : List V → Hp → Prop), Rl K bo G0 H0 σ H G ε n → dm ε n P →
  (∀ vs G' H' os f n', Grow bo G H G' H' → BoxO K G' H' bo n' → OwsR K G' H' vs os f → New H G' f → P os n' → Q vs H') → ta σ H Q
structure DN (K : PySem.W.Frag) (X : Cx) (e : Expr) (te : TE) (dn : DNt S) : Prop where
  pe : PE X e te
  se : SN K te dn
structure DM (K : PySem.W.Frag) (X : Cx) (es : List Expr) (ta : TA) (dm : DMt S) : Prop where
  pa : PA X es ta
  se : SM K ta dm
/-- a new place out of what stands still goes into it -/
theorem Grow.still {bo : Option Bo} {G H G' H' : Hp} {f : List Addr} (g : Grow bo G H G' H') (hn : New H G' f) : Grow bo G H (addG G' H' f) H' :=
  ⟨g.gg.trans (addG_same fun a ha => (hn a ha).2), addG_up g.gh, fun a h0 h1 => by
    unfold addG
    rw [if_neg fun z => h0 (hn a z).1]
    exact g.fr a h0 h1, g.kp⟩
section
variable {X : Cx} {K : PySem.W.Frag} {e : Expr} {es : List Expr} {te : TE} {ta : TA} {de : DEt S} {df : DFt S} {dn : DNt S} {dm : DMt S} {p pos : Pos}
omit [MSt S] in
def dDat (de : DEt S) : DNt S := fun ε n P => de ε n fun d n1 => P (.dat d) n1
omit [MSt S] in
def dLstF (df : DFt S) : DNt S := fun ε n P => df ε n fun ds n1 => P (.lst (ds.map .dat)) n1
theorem dn_de (h : DE K X e te de) (hK : X.K = K := by rfl) : DN K X e te (dDat de) := by
  subst hK
  exact ⟨h.pe, fun bo G0 H0 σ H G ε n P Q R hp k => h.se bo G0 H0 σ H G ε n _ _ R hp fun v G1 H1 d n1 g1 b1 p1 h1 => k v G1 H1 _ [] n1 g1 b1 (.dat p1) (fun _ z => nomatch z) h1⟩
theorem dn_df (h : DF K X e te df) (hK : X.K = K := by rfl) : DN K X e te (dLstF df) := by
  subst hK
  exact ⟨h.pe, fun bo G0 H0 σ H G ε n P Q R hp k => h.se bo G0 H0 σ H G ε n _ _ R hp fun p vs G1 H1 ds n1 g1 b1 e1 e2 e3 e4 h1 => k (.ref p) G1 H1 _ [p] n1 g1 b1 (.lst e3 (OwsR.dat e4) (fun z => nomatch z)) (fun a ha => by
    rw [List.mem_singleton.mp ha]
    exact ⟨e1, e2⟩) h1⟩
omit [MSt S] in
/-- as data -/
def dStill (dn : DNt S) : DEt S := fun ε n P => dn ε n fun o n1 => ∃ d, o.toD = some d ∧ P d n1
theorem dn_still (h : DN K X e te dn) (hK : X.K = K := by rfl) : DE K X e te (dStill dn) := by
  subst hK
  exact ⟨h.pe, fun bo G0 H0 σ H G ε n P Q R hp k => h.se bo G0 H0 σ H G ε n _ _ R hp fun v G1 H1 o f n1 g1 b1 r1 e1 h1 => by
    obtain ⟨d, e2, h1⟩ := h1
    exact k v (addG G1 H1 f) H1 d n1 (g1.still e1) (b1.keep (addG_same fun a ha => (e1 a ha).2) fun _ _ _ q => q) (r1.still e2 fun a ha => (e1 a ha).2) h1⟩
omit [MSt S] in
def dmNil : DMt S := fun _ n P => P [] n
omit [MSt S] in
def dmCons (dn : DNt S) (dm : DMt S) : DMt S := fun ε n P => dn ε n fun o n1 => dm ε n1 fun os n2 => P (o :: os) n2
theorem dm_nil (hK : X.K = K := by rfl) : DM K X [] tNil (dmNil (S := S)) := by
  subst hK
  exact ⟨pa_nil, fun bo G0 H0 σ H G ε n P Q R hp k => k [] G H [] [] n (Grow.refl R.gh) R.bx .nil (fun _ z => nomatch z) hp⟩
theorem dm_cons (ha : DN K X e te dn) (hr : DM K X es ta dm) (hs : starEach (e :: es) X.env = (false, eval e X.env) :: starEach es X.env := by rfl) (hK : X.K = K := by rfl) : DM K X (e :: es) (tCons te ta) (dmCons dn dm) := by
  subst hK
  exact ⟨pa_cons ha.pe hr.pa hs, fun bo G0 H0 σ H G ε n P Q R hp k => ha.se bo G0 H0 σ H G ε n _ _ R hp fun v G1 H1 o f n1 g1 b1 r1 e1 h1 =>
      hr.se bo G0 H0 σ H1 G1 ε n1 _ _ (R.grow g1 b1) h1 fun vs G2 H2 os fs n2 g2 b2 r2 e2 h2 => by
        have hnb : ∀ a ∈ f, ¬ Has bo a := fun a ha z => R.bx.some_ne z (e1 a ha).1
        refine k _ G2 H2 _ (f ++ fs) n2 (g1.trans b1 g2) b2 (.cons (r1.keep g2.gg fun a ha u q => g2.kp a u (hnb a ha) q) r2 fun a ha hb => r1.ne a ha (e2 a hb).1) (fun a ha => ?_) h2
        rcases List.mem_append.mp ha with q | q
        · exact ⟨(e1 a q).1, g2.fr a (r1.ne a q) (e1 a q).2⟩
        · exact ⟨g1.back b1 (e2 a q).1, (e2 a q).2⟩⟩
omit [MSt S] in
def dnLst (dm : DMt S) : DNt S := fun ε n P => dm ε n fun os n1 => os.length ≤ 100000 ∧ P (.lst os) n1
omit [MSt S] in
def dnTup (dm : DMt S) : DNt S := fun ε n P => dm ε n fun os n1 => os.length ≤ 100000 ∧ P (.tup os) n1
omit [MSt S] in
theorem OwsR.len {G H : Hp} : ∀ {vs : List V} {os : List Own} {f : List Addr}, OwsR K G H vs os f → vs.length = os.length
  | _, _, _, .nil => rfl
  | _, _, _, .cons _ t _ => by rw [List.length_cons, List.length_cons, OwsR.len t]
theorem new_top {bo : Option Bo} {G H G1 H1 : Hp} {n1 : S} {f : List Addr} {p : Addr} {o : HO} (g1 : Grow bo G H G1 H1) (b1 : BoxO K G1 H1 bo n1) (e1 : New H G1 f) (hne : ∀ a ∈ f, H1 a ≠ none) (hp : H1 p = none) :
    Grow bo G H G1 (upd H1 p o) ∧ BoxO K G1 (upd H1 p o) bo n1 ∧ New H G1 (p :: f) ∧ p ∉ f := by
  refine ⟨g1.trans b1 (Grow.out g1.gh hp), b1.grow (Grow.out (G := G1) g1.gh hp), fun a ha => ?_, fun z => hne p z hp⟩
  rcases List.mem_cons.mp ha with rfl | ha
  · exact ⟨g1.back b1 hp, g1.gh.free hp⟩
  · exact e1 a ha
theorem dn_lst (h : DM K X es ta dm) (hK : X.K = K := by rfl) : DN K X (.List es pos) (tLst ta) (dnLst dm) := by
  subst hK
  exact ⟨pe_lst h.pa, fun bo G0 H0 σ H G ε n P Q R hp k =>
    h.se bo G0 H0 σ H G ε n _ _ R hp fun vs G1 H1 os f n1 g1 b1 r1 e1 h1 => by
      obtain ⟨e2, h1⟩ := h1
      refine ⟨sz (by rw [r1.len]; exact e2), fun p hpn => ?_⟩
      obtain ⟨q1, q2, q3, q4⟩ := new_top (o := .lst vs) g1 b1 e1 r1.ne hpn
      exact k (.ref p) G1 _ (.lst os) (p :: f) n1 q1 q2 (.lst upd_same (r1.keep (Same.refl _) fun a ha u q => same_new hpn a u q) q4) q3 h1⟩
theorem dn_tup {x1} (h : DM K X es ta dm) (hK : X.K = K := by rfl) : DN K X (.Tuple es x1 pos) (tTup ta) (dnTup dm) := by
  subst hK
  exact ⟨pe_tup h.pa, fun bo G0 H0 σ H G ε n P Q R hp k =>
    h.se bo G0 H0 σ H G ε n _ _ R hp fun vs G1 H1 os f n1 g1 b1 r1 e1 h1 => by
      obtain ⟨e2, h1⟩ := h1
      refine ⟨sz (by rw [r1.len]; exact e2), fun p hpn => ?_⟩
      obtain ⟨q1, q2, q3, q4⟩ := new_top (o := .tup vs) g1 b1 e1 r1.ne hpn
      exact k (.ref p) G1 _ (.tup os) (p :: f) n1 q1 q2 (.tup upd_same (r1.keep (Same.refl _) fun a ha u q => same_new hpn a u q) q4) q3 h1⟩
end
/-! ### defs that tell new things -/
abbrev ConO (S : Type) := List Ag → S → (Own → S → Prop) → Prop
def spO (K : PySem.W.Frag) (m : Nat) (con : ConO S) : Sp := fun vs H Q _ => ∃ (bo : Option Bo) (G : Hp) (as : List Ag) (n : S) (P : Own → S → Prop), vs.length = m ∧ AgsR K bo G vs as ∧ Same G H ∧ BoxO K G H bo n ∧ (∀ a, Has bo a → G a = none) ∧ con as n P ∧
  ∀ v G' H' o f n', Grow bo G H G' H' → BoxO K G' H' bo n' → OwR K G' H' v o f → New H G' f → P o n' → Q v H'
omit [MSt S] in
/-- the same def, its new things standing still -/
def conD (con : ConO S) : ConS S := fun as n P => con as n fun o n1 => ∃ d, o.toD = some d ∧ P d n1
theorem spO_D {K : PySem.W.Frag} {m : Nat} {con : ConO S} {vs : List V} {H : Hp} {Q : VK} {E : XK} (h : spD K m (conD con) vs H Q E) : spO K m con vs H Q E := by
  obtain ⟨bo, G, as, n, P, hl, ha, sg, hb, hgb, hc, kk⟩ := h
  refine ⟨bo, G, as, n, _, hl, ha, sg, hb, hgb, hc, fun v G' H' o f n' g1 b1 r1 e1 h1 => ?_⟩
  obtain ⟨d, e2, h1⟩ := h1
  exact kk v (addG G' H' f) H' d n' (g1.still e1) (b1.keep (addG_same fun a ha => (e1 a ha).2) fun _ _ _ q => q) (r1.still e2 fun a ha => (e1 a ha).2) h1
theorem FnOk.still {P : Program} {w : World} {K : PySem.W.Frag} {mg : Str → Option Value} {base : Heap} {k m : Nat} {f : Addr} {fd : FuncData} {ps : List Str} {con : ConO S} (F : FnOk P w K mg base CX0 k f fd ps (spO K m con)) : FnOk P w K mg base CX0 k f fd ps (spD K m (conD con)) :=
  F.imp fun _ _ _ _ h => spO_D h
theorem FnOk.con {P : Program} {w : World} {K : PySem.W.Frag} {mg : Str → Option Value} {base : Heap} {k m : Nat} {f : Addr} {fd : FuncData} {ps : List Str} {con con' : ConS S} (F : FnOk P w K mg base CX0 k f fd ps (spD K m con)) (h : ∀ as n P, con' as n P → con as n P) : FnOk P w K mg base CX0 k f fd ps (spD K m con') :=
  F.imp fun _ _ _ _ ⟨bo, G, as, n, P, hl, ha, sg, hb, hgb, hc, kk⟩ => ⟨bo, G, as, n, P, hl, ha, sg, hb, hgb, h as n P hc, kk⟩
/-- THE RULE for a def that may tell new things -/
theorem def_okO {P : Program} {w : World} {K : PySem.W.Frag} {mg : Str → Option Value} {base : Heap} {x qual : Str} {st : Stmt} {f : Addr} {fd : FuncData} {N ps : List Str} {k m : Nat} {con : ConO S} (F : Fun K x qual st f fd) (Sc : FnScope N ps (defScope st)) (hm : ps.length = m)
    (h : ∀ (cdv : Value) (A : Around) (outer : List Env) (s : Shared) (H : Hp) (E : XK), Room k (A.deeper (envOfC qual (defScope st) s.heap.objs.size f cdv)) →
      ∃ ts ds, DSs K (cxOf CX0 P w K mg base N qual (defScope st) f cdv A outer s H E).nox (defBody st) ts ds ∧ ∀ (as : List Ag) (n : S) (P : Own → S → Prop), as.length = m → con as n P → ds { nx := fun _ n => P (.dat .none) n, rt := fun d n => P (.dat d) n, rf := P } (en0 N as) n) : FnOk P w K mg base CX0 (k + 1) f fd ps (spO K m con) := by
  refine F.ok Sc (fun vs H Q E h => ?_) (fun cdv A outer s H vs Q E hr hsp => ?_)
  · obtain ⟨_, _, _, _, _, q, _⟩ := h
    exact q.trans hm.symm
  · obtain ⟨bo, G, as, n, P', hl, ha, sg, hb, hgb, hc, kk⟩ := hsp
    obtain ⟨ts, ds, hD, hds⟩ := h cdv A outer s H E hr
    have hlen : as.length = m := (ags_len ha).symm.trans hl
    have hN : as.length ≤ N.length := by
      have := congrArg List.length Sc.pre
      rw [List.length_take] at this
      omega
    refine ⟨ts, hD.ps, hD.ss bo G H (L2.start N vs) H G (en0 N as) n _ { nx := fun _ n => P' (.dat .none) n, rt := fun d n => P' (.dat d) n, rf := P' } (rl_start hN ha sg hb hgb) ⟨fun σ H' G' ε n r q => kk .non G' H' (.dat .none) [] n r.gr r.bx (.dat .non) (fun _ z => nomatch z) q, fun v G' H' d n g b p q => kk v G' H' (.dat d) [] n g b (.dat p) (fun _ z => nomatch z) q, fun _ _ _ _ _ _ q => q.elim, fun _ _ _ _ _ _ q => q.elim, fun v G' H' o f n g b r e q => kk v G' H' o f n g b r e q⟩ (hds as n P' hlen hc)⟩
theorem def_okDO {P : Program} {w : World} {K : PySem.W.Frag} {mg : Str → Option Value} {base : Heap} {x qual : Str} {params : Arguments} {body : List Stmt} {scope : Scope} {dvs : List V} {kws : List (Str × V)} {f : Addr} {fd : FuncData} {N ps : List Str} {k m : Nat} {con : ConO S} (F : FunD K x qual params body scope dvs kws f fd) (Sc : FnScope N ps scope) (hm : ps.length = m)
    (h : ∀ (cdv : Value) (A : Around) (outer : List Env) (s : Shared) (H : Hp) (E : XK), Room k (A.deeper (envOfC qual scope s.heap.objs.size f cdv)) →
      ∃ ts ds, DSs K (cxOf CX0 P w K mg base N qual scope f cdv A outer s H E).nox body ts ds ∧ ∀ (as : List Ag) (n : S) (P : Own → S → Prop), as.length = m → con as n P → ds { nx := fun _ n => P (.dat .none) n, rt := fun d n => P (.dat d) n, rf := P } (en0 N as) n) : FnOk P w K mg base CX0 (k + 1) f fd ps (spO K m con) := by
  refine F.ok Sc (fun vs H Q E h => ?_) (fun cdv A outer s H vs Q E hr hsp => ?_)
  · obtain ⟨_, _, _, _, _, q, _⟩ := h
    exact q.trans hm.symm
  · obtain ⟨bo, G, as, n, P', hl, ha, sg, hb, hgb, hc, kk⟩ := hsp
    obtain ⟨ts, ds, hD, hds⟩ := h cdv A outer s H E hr
    have hlen : as.length = m := (ags_len ha).symm.trans hl
    have hN : as.length ≤ N.length := by
      have := congrArg List.length Sc.pre
      rw [List.length_take] at this
      omega
    refine ⟨ts, hD.ps.nox, hD.ss bo G H (L2.start N vs) H G (en0 N as) n _ { nx := fun _ n => P' (.dat .none) n, rt := fun d n => P' (.dat d) n, rf := P' } (rl_start hN ha sg hb hgb) ⟨fun σ H' G' ε n r q => kk .non G' H' (.dat .none) [] n r.gr r.bx (.dat .non) (fun _ z => nomatch z) q, fun v G' H' d n g b p q => kk v G' H' (.dat d) [] n g b (.dat p) (fun _ z => nomatch z) q, fun _ _ _ _ _ _ q => q.elim, fun _ _ _ _ _ _ q => q.elim, fun v G' H' o f n g b r e q => kk v G' H' o f n g b r e q⟩ (hds as n P' hlen hc)⟩
structure KfO (P : Program) (w : World) (K : PySem.W.Frag) (mg : Str → Option Value) (base : Heap) (x : Str) (k m : Nat) (con : ConO S) : Prop where
  ex : ∃ (f : Addr) (fd : FuncData) (ps : List Str), FnOk P w K mg base CX0 k f fd ps (spO K m con) ∧ mg x = some (.ref f) ∧ PySem.W.keepIn K (.ref f) = true ∧ Binds K fd ps []
structure KdO (P : Program) (w : World) (K : PySem.W.Frag) (mg : Str → Option Value) (base : Heap) (x : Str) (k m : Nat) (con : ConO S) (dvs : List V) (das : List Ag) : Prop where
  ex : ∃ (f : Addr) (fd : FuncData) (ps : List Str) (ds : List Value), FnOk P w K mg base CX0 k f fd ps (spO K m con) ∧ mg x = some (.ref f) ∧ PySem.W.keepIn K (.ref f) = true ∧ Binds K fd ps ds ∧ Vals dvs ds ∧ ∀ bo G, AgsR K bo G dvs das
structure KwO (P : Program) (w : World) (K : PySem.W.Frag) (mg : Str → Option Value) (base : Heap) (x : Str) (k m : Nat) (con : ConO S) (n : Nat) (ks : List Str) (gV : List V → List V → List V) (gA : List Ag → List Ag → List Ag) : Prop where
  ex : ∃ (f : Addr) (fd : FuncData) (ps : List Str) (g : List Value → List Value → List Value), FnOk P w K mg base CX0 k f fd ps (spO K m con) ∧ mg x = some (.ref f) ∧ PySem.W.keepIn K (.ref f) = true ∧ KBn K fd ps n ks g gV ∧
    ∀ bo G vs as zs bs, AgsR K bo G vs as → AgsR K bo G zs bs → as.length = n → bs.length = ks.length → AgsR K bo G (gV vs zs) (gA as bs)
theorem KfO.still {P : Program} {w : World} {K : PySem.W.Frag} {mg : Str → Option Value} {base : Heap} {x : Str} {k m : Nat} {con : ConO S} (F : KfO P w K mg base x k m con) : Kf P w K mg base x k m (conD con) := by
  obtain ⟨f, fd, ps, F1, F2⟩ := F.ex
  exact ⟨f, fd, ps, FnOk.still F1, F2⟩
theorem KdO.still {P : Program} {w : World} {K : PySem.W.Frag} {mg : Str → Option Value} {base : Heap} {x : Str} {k m : Nat} {con : ConO S} {dvs : List V} {das : List Ag} (F : KdO P w K mg base x k m con dvs das) : Kd P w K mg base x k m (conD con) dvs das := by
  obtain ⟨f, fd, ps, ds, F1, F2⟩ := F.ex
  exact ⟨f, fd, ps, ds, FnOk.still F1, F2⟩
theorem KwO.still {P : Program} {w : World} {K : PySem.W.Frag} {mg : Str → Option Value} {base : Heap} {x : Str} {k m n : Nat} {con : ConO S} {ks : List Str} {gV : List V → List V → List V} {gA : List Ag → List Ag → List Ag} (F : KwO P w K mg base x k m con n ks gV gA) : Kw P w K mg base x k m (conD con) n ks gV gA := by
  obtain ⟨f, fd, ps, g, F1, F2⟩ := F.ex
  exact ⟨f, fd, ps, g, FnOk.still F1, F2⟩
omit [MSt S] in
def dnCall (m : Nat) (con : ConO S) (da : DAt S) : DNt S := fun ε n P => da ε n fun as n1 => as.length = m ∧ con as n1 P
omit [MSt S] in
def dnCallD (m : Nat) (con : ConO S) (das : List Ag) (da : DAt S) : DNt S := fun ε n P => da ε n fun as n1 => (as ++ das).length = m ∧ con (as ++ das) n1 P
omit [MSt S] in
def dnCallK (m : Nat) (con : ConO S) (k j : Nat) (gA : List Ag → List Ag → List Ag) (da dk : DAt S) : DNt S := fun ε n P => da ε n fun as n1 => dk ε n1 fun bs n2 => as.length = k ∧ bs.length = j ∧ (gA as bs).length = m ∧ con (gA as bs) n2 P
section
variable {X : Cx} {K : PySem.W.Frag} {x : Str} {k m : Nat} {con : ConO S} {e : Expr} {es : List Expr} {ta tk : TA} {da dk : DAt S} {p pos : Pos} {das : List Ag} {kws : List Keyword}
theorem dn_call (F : KfO X.prog X.w K X.mg X.base x k m con) (hr : Room k X.A) (hg : Gl X x) (h : DA K X (e :: es) ta da) (hdb : (x == ("__debug__" : Str)) = false := by decide)
    (he : starEach (e :: es) X.env = (false, eval e X.env) :: starEach es X.env := by rfl) (hpl : (backTo pos (starEach es X.env)).any (·.1) = false := by rfl) (hK : X.K = K := by rfl) :
    DN K X (.Call (.Name x p) (e :: es) [] pos) (tCall (spO K m con) [] E0 ta) (dnCall m con da) := by
  subst hK
  obtain ⟨f, fd, ps, F1, F2, F3, F4⟩ := F.ex
  exact ⟨pe_call F1 hr hg F2 F3 F4 .nil pass0 h.pa hdb he hpl, fun bo G0 H0 σ H G ε n P Q R hp k =>
    h.se bo G0 H0 σ H G ε n _ _ R hp fun vs G1 H1 as n1 g1 b1 p1 h1 => by
      have R1 := R.grow g1 b1
      show spO X.K m con (vs ++ []) H1 Q E0
      rw [List.append_nil]
      exact ⟨bo, G1, as, n1, P, (ags_len p1).trans h1.1, p1, g1.gh, b1, R1.gb, h1.2, fun v G' H' o f n' g' b' r' e' h' => k v G' H' o f n' (g1.trans b1 g') b' r' (fun a ha => ⟨g1.back b1 (e' a ha).1, (e' a ha).2⟩) h'⟩⟩
theorem dn_callD {dvs : List V} (F : KdO X.prog X.w K X.mg X.base x k m con dvs das) (hr : Room k X.A) (hg : Gl X x) (h : DA K X (e :: es) ta da) (hdb : (x == ("__debug__" : Str)) = false := by decide)
    (he : starEach (e :: es) X.env = (false, eval e X.env) :: starEach es X.env := by rfl) (hpl : (backTo pos (starEach es X.env)).any (·.1) = false := by rfl) (hK : X.K = K := by rfl) :
    DN K X (.Call (.Name x p) (e :: es) [] pos) (tCall (spO K m con) dvs E0 ta) (dnCallD m con das da) := by
  subst hK
  obtain ⟨f, fd, ps, ds, F1, F2, F3, F4, F5, F6⟩ := F.ex
  exact ⟨pe_call F1 hr hg F2 F3 F4 F5 pass0 h.pa hdb he hpl, fun bo G0 H0 σ H G ε n P Q R hp k =>
    h.se bo G0 H0 σ H G ε n _ _ R hp fun vs G1 H1 as n1 g1 b1 p1 h1 => by
      have R1 := R.grow g1 b1
      have p2 := p1.app (F6 bo G1)
      exact ⟨bo, G1, as ++ das, n1, P, (ags_len p2).trans h1.1, p2, g1.gh, b1, R1.gb, h1.2, fun v G' H' o f n' g' b' r' e' h' => k v G' H' o f n' (g1.trans b1 g') b' r' (fun a ha => ⟨g1.back b1 (e' a ha).1, (e' a ha).2⟩) h'⟩⟩
theorem dn_callK {n : Nat} {ks : List Str} {gV : List V → List V → List V} {gA : List Ag → List Ag → List Ag} (F : KwO X.prog X.w K X.mg X.base x k m con n ks gV gA) (hr : Room k X.A) (hg : Gl X x) (h : DA K X (e :: es) ta da) (hk : DK K X kws tk dk)
    (hall : (backToKw pos (keywordEach kws X.env)).all (·.1.isSome) = true := by rfl) (hks : (backToKw pos (keywordEach kws X.env)).filterMap (·.1) = ks := by rfl)
    (hdb : (x == ("__debug__" : Str)) = false := by decide) (he : starEach (e :: es) X.env = (false, eval e X.env) :: starEach es X.env := by rfl)
    (hpl : ((backTo pos (starEach (e :: es) X.env)).any (·.1) || (backToKw pos (keywordEach kws X.env)).any (·.1.isNone)) = false := by rfl) (hK : X.K = K := by rfl) :
    DN K X (.Call (.Name x p) (e :: es) kws pos) (tCallN n ks.length (spO K m con) gV E0 ta tk) (dnCallK m con n ks.length gA da dk) := by
  subst hK
  obtain ⟨f, fd, ps, g, F1, F2, F3, F4, F5⟩ := F.ex
  exact ⟨pe_callN F1 hr hg F2 F3 F4 pass0 h.pa hk.pk hall hks hdb he hpl, fun bo G0 H0 σ H G ε nn P Q R hp k =>
    h.se bo G0 H0 σ H G ε nn _ _ R hp fun vs G1 H1 as n1 g1 b1 p1 h1 =>
    hk.se bo G0 H0 σ H1 G1 ε n1 _ _ (R.grow g1 b1) h1 fun zs G2 H2 bs n2 g2 b2 p2 h2 => by
      have R2 := (R.grow g1 b1).grow g2 b2
      have g12 := g1.trans b1 g2
      have p3 := F5 bo G2 vs as zs bs (p1.up g2.gg) p2 h2.1 h2.2.1
      exact ⟨(ags_len p1).trans h2.1, (ags_len p2).trans h2.2.1, bo, G2, gA as bs, n2, P, (ags_len p3).trans h2.2.2.1, p3, g2.gh, b2, R2.gb, h2.2.2.2, fun v G' H' o f n' g' b' r' e' h' => k v G' H' o f n' (g12.trans b2 g') b' r' (fun a ha => ⟨g12.back b2 (e' a ha).1, (e' a ha).2⟩) h'⟩⟩
end
/-! ### statements on them -/
section
variable {X : Cx} {K : PySem.W.Frag} {st : Stmt} {t : TS} {d1 : DSt S} {e : Expr} {te : TE} {dn : DNt S} {de : DEt S} {pos : Pos}
omit [MSt S] in
def dAsgN (i : Nat) (dn : DNt S) : DSt S := fun D ε n => dn ε n fun o n1 => D.nx (ε.set i (.ob o)) n1
theorem ds_setN (i : Nat) {x : Str} {pos' : Pos} (hN : X.N.Nodup) (hi : X.N[i]? = some x) (hx : Loc X.env.scope x) (h : DN K X e te dn) (hs : swapsWith e (some (.Name x pos')) pos.line X.env = pure false := by rfl) (hf : X.fn x = true ∨ X.env.scope.names.lookup x = some .local := by first | exact .inl rfl | exact .inr rfl | assumption) (hK : X.K = K := by rfl) :
    DS K X (.Assign [.Name x pos'] e pos) (tAsg te (gName i)) (dAsgN i dn) := by
  subst hK
  exact ⟨ps_set hN hi hx h.pe hs hf, fun bo G0 H0 σ H G ε n D DD r l q =>
    h.se bo G0 H0 σ H G ε n _ _ r q fun v G1 H1 o f n1 g1 b1 r1 e1 h1 => l.nx _ H1 G1 _ n1 (r.setOb g1 b1 (s := .ob o) rfl r1 e1 i) h1⟩
omit [MSt S] in
def dRetN' (dn : DNt S) : DSt S := fun D ε n => dn ε n D.rf
theorem ds_retN' (h : DN K X e te dn) (hK : X.K = K := by rfl) : DS K X (.Return (some e) pos) (tRet te) (dRetN' dn) := by
  subst hK
  exact ⟨ps_ret h.pe, fun bo G0 H0 σ H G ε n D DD r l q =>
    h.se bo G0 H0 σ H G ε n _ _ r q fun v G1 H1 o f n1 g1 b1 r1 e1 h1 => l.rf v G1 H1 o f n1 (r.gr.trans r.bx g1) b1 r1 (fun a ha => ⟨r.gr.back r.bx (e1 a ha).1, (e1 a ha).2⟩) h1⟩
omit [MSt S] in
/-- what is one's own in slot i stands still from here on -/
def dFrzO (i : Nat) (d1 : DSt S) : DSt S := fun D ε n => ∃ s o d, ε[i]? = some s ∧ s.own = some o ∧ o.toD = some d ∧ d1 D (ε.set i (.im d)) n
theorem dss_frzO (i : Nat) {sts : List Stmt} (h : DSs K X sts t d1) (hK : X.K = K := by rfl) : DSs K X sts t (dFrzO i d1) := by
  subst hK
  exact ⟨h.ps, fun bo G0 H0 σ H G ε n D DD r l q => by
    obtain ⟨s, o, d, e1, e2, e3, q⟩ := q
    obtain ⟨G', r'⟩ := r.freezeOb e1 e2 e3
    exact h.ss bo G0 H0 σ H G' _ n D DD r' l q⟩
omit [MSt S] in
/-- what is in slot i is no more looked at -/
def dFgt (i : Nat) (d1 : DSt S) : DSt S := fun D ε n => d1 D (ε.set i .no) n
/-! ### a look at one's own things: they stand still for that time -/
def flatD : PyData → Bool
  | .list _ => false
  | .tuple _ => false
  | .dict _ => false
  | _ => true
omit [MSt S] in
theorem flat_any {K : PySem.W.Frag} {G G' : Hp} {v : V} {d : PyData} (h : Dp K G v d) (e : flatD d = true) : Dp K G' v d := by
  cases h with
  | non => exact .non
  | bl b => exact .bl b
  | int i => exact .int i
  | str x => exact .str x
  | lst _ _ => cases e
  | tup _ _ => cases e
omit [MSt S] in
def dLook (de : DEt S) : DEt S := fun ε n P => de (ε.map frzS) n fun d _ => flatD d = true ∧ P d n
omit [MSt S] in
def dLookT (dt : DTt S) : DTt S := fun ε n P => dt (ε.map frzS) n fun b _ => P b n
theorem Grow.look {bo : Option Bo} {G G' H G1 H1 : Hp} (s : Same G G') (g : Grow none G' H G1 H1) : Grow bo G H G H1 :=
  ⟨Same.refl G, (s.trans g.gg).trans g.gh, fun _ _ h => h, fun a o _ q => g.kp a o (fun z => z) q⟩
theorem BoxO.look {K : PySem.W.Frag} {bo : Option Bo} {G H H1 G' G1 : Hp} {n : S} (h : BoxO K G H bo n) (g : Grow none G' H G1 H1) : BoxO K G H1 bo n := h.keep (Same.refl G) fun a _ u q => g.kp a u (fun z => z) q
theorem de_look (h : DE K X e te de) (hK : X.K = K := by rfl) : DE K X e te (dLook de) := by
  subst hK
  exact ⟨h.pe, fun bo G0 H0 σ H G ε n P Q R hp k => by
    obtain ⟨G', s, R'⟩ := R.look
    exact h.se none G' H σ H G' _ n _ _ R' hp fun v G1 H1 d n1 g1 b1 p1 h1 => k v G H1 d n (Grow.look s g1) (R.bx.look g1) (flat_any p1 h1.1) h1.2⟩
theorem dt_look {tt : TT} {dt : DTt S} (h : DT K X e tt dt) (hK : X.K = K := by rfl) : DT K X e tt (dLookT dt) := by
  subst hK
  exact ⟨h.pt, fun bo G0 H0 σ H G ε n P Q R hp k => by
    obtain ⟨G', s, R'⟩ := R.look
    exact h.se none G' H σ H G' _ n _ _ R' hp fun b G1 H1 n1 g1 b1 h1 => k b G H1 n (Grow.look s g1) (R.bx.look g1) h1⟩
end
end DL

set_option Elab.async false
set_option linter.all false
set_option autoImplicit false
set_option maxRecDepth 100000
namespace DL
open PySem PySem.Spec PyProof.Rows L2
variable {S : Type} [MSt S]
section
variable {X : Cx} {K : PySem.W.Frag} {tg e a : Expr} {te ta : TE} {de da : DEt S} {p p2 pos pos2 : Pos}
omit [MSt S] in
/-- for i in reversed(range(n)) -/
def dRevR (de : DEt S) : DIt S := fun ε n P => de ε n fun d n1 => match d with | .int j => 0 ≤ j ∧ j ≤ 1000000 ∧ P (rgD j.toNat).reverse n1 | _ => False
theorem rgD_rev_get {m i : Nat} {x : PyData} (h : (rgD m).reverse[i]? = some x) : i < m ∧ x = .int ((m - 1 - i : Nat) : Int) := by
  have hi : i < m := by
    have := (List.getElem?_eq_some_iff.mp h).1
    rwa [List.length_reverse, rgD_length] at this
  rw [List.getElem?_reverse (by rw [rgD_length]; exact hi), rgD_length] at h
  exact ⟨hi, (rgD_get h).2⟩
theorem di_revR (hg : Gl X "reversed") (hm : X.mg "reversed" = none) (hg2 : Gl X "range") (hm2 : X.mg "range" = none) (h : DE K X a ta da) (hs : starEach [.Call (.Name "range" p2) [a] [] pos2] X.env = (false, eval (.Call (.Name "range" p2) [a] [] pos2) X.env) :: starEach [] X.env := by rfl)
    (na : starEach [a] X.env = (false, eval a X.env) :: starEach [] X.env := by rfl) (hK : X.K = K := by rfl) : DI K X tg (.Call (.Name "reversed" p) [.Call (.Name "range" p2) [a] [] pos2] [] pos) (iRevR (tRg1 ta)) (dRevR da) := by
  subst hK
  exact ⟨pi_revR hg hm (prg_1 hg2 hm2 h.pe na) hs, fun bo G0 H0 σ H G ε n P R r hp k =>
    h.se bo G0 H0 σ H G ε n _ _ r hp fun v G1 H1 d n1 g1 b1 p1 h1 => by
      cases p1 with
      | int j =>
        obtain ⟨q1, q2, h1⟩ := h1
        refine ⟨j, rfl, by omega, by omega, by omega, by omega, k _ G1 H1 _ n1 g1 b1 (fun i G2 H2 s1 s2 => ⟨fun d hd => ?_, fun hl => ?_⟩) h1⟩
        · obtain ⟨hi, rfl⟩ := rgD_rev_get hd
          refine ⟨by rw [Int.sub_zero]; exact hi, fun y H' hy => ?_⟩
          obtain ⟨rfl, rfl⟩ := hy
          rw [show (0 : Int) + (((j - 0).toNat : Nat) : Int) - 1 + ((i : Nat) : Int) * (-1) = ((j.toNat - 1 - i : Nat) : Int) by rw [Int.sub_zero]; omega]
          exact ⟨G2, Grow.refl s2, .int _⟩
        · rw [List.length_reverse, rgD_length] at hl
          show (j - 0).toNat ≤ i
          rw [Int.sub_zero]
          exact hl
      | _ => exact h1.elim⟩
end
end DL

set_option Elab.async false
set_option linter.all false
set_option autoImplicit false
set_option maxRecDepth 100000
namespace DL
open PySem PySem.Spec PyProof.Rows L2
/-! ### places within things of one's own -/
def Own.kids : Own → Option (List Own)
  | .lst os => some os
  | .tup os => some os
  | .ins _ _ os => some os
  | _ => none
def Own.withKids (os : List Own) : Own → Own
  | .lst _ => .lst os
  | .tup _ => .tup os
  | .ins C fs _ => .ins C fs os
  | o => o
def Own.get : Own → List Nat → Option Own
  | o, [] => some o
  | o, k :: p => match o.kids with
    | some os => match os[k]? with
      | some c => Own.get c p
      | none => none
    | none => none
def Own.put (o' : Own) : Own → List Nat → Own
  | _, [] => o'
  | o, k :: p => match o.kids with
    | some os => match os[k]? with
      | some c => o.withKids (os.set k (Own.put o' c p))
      | none => o
    | none => o
def vAt (H : Hp) : V → List Nat → Option V
  | v, [] => some v
  | .ref a, k :: p => match H a with
    | some (.lst vs) => (vs[k]?).bind fun v => vAt H v p
    | some (.tup vs) => (vs[k]?).bind fun v => vAt H v p
    | some (.ins _ _ fs) => (fs[k]?).bind fun x => vAt H x.2 p
    | _ => none
  | _, _ :: _ => none
section
variable {K : PySem.W.Frag} {G H : Hp}
/-- one of a row, and another one in its place -/
theorem OwsR.focus : ∀ {vs : List V} {os : List Own} {fp : List Addr} {k : Nat} {o1 : Own}, OwsR K G H vs os fp → os[k]? = some o1 → ∃ v1 f1, vs[k]? = some v1 ∧ OwR K G H v1 o1 f1 ∧ (∀ a ∈ f1, a ∈ fp) ∧
    ∀ G2 H2 o2 f2, Same G G2 → (∀ a ∈ fp, a ∉ f1 → ∀ u, H a = some u → H2 a = some u) → OwR K G2 H2 v1 o2 f2 → (∀ a ∈ f2, a ∈ f1 ∨ H a = none) → ∃ fp2, OwsR K G2 H2 vs (os.set k o2) fp2 ∧ ∀ a ∈ fp2, a ∈ fp ∨ a ∈ f2
  | _, _, _, _, _, .nil, e => by simp at e
  | _, _, _, 0, o1, .cons (f := f) (fs := fs) r t hd, e => by
    simp at e
    subst e
    refine ⟨_, f, rfl, r, fun a ha => List.mem_append_left _ ha, fun G2 H2 o2 f2 sg hk r2 h2 => ⟨f2 ++ fs, .cons r2 (t.keep sg fun a ha u q => hk a (List.mem_append_right _ ha) (fun z => hd a z ha) u q) fun a ha hb => ?_, fun a ha => ?_⟩⟩
    · rcases h2 a ha with q | q
      · exact hd a q hb
      · exact t.ne a hb q
    · rcases List.mem_append.mp ha with q | q
      · exact .inr q
      · exact .inl (List.mem_append_right _ q)
  | _, _, _, k + 1, o1, .cons (f := f) (fs := fs) r t hd, e => by
    obtain ⟨v1, f1, e1, r1, s1, pb⟩ := OwsR.focus (k := k) (o1 := o1) t (by simpa using e)
    refine ⟨v1, f1, by simpa using e1, r1, fun a ha => List.mem_append_right _ (s1 a ha), fun G2 H2 o2 f2 sg hk r2 h2 => ?_⟩
    obtain ⟨fp2, q1, q2⟩ := pb G2 H2 o2 f2 sg (fun a ha => hk a (List.mem_append_right _ ha)) r2 h2
    refine ⟨f ++ fp2, .cons (r.keep sg fun a ha u q => hk a (List.mem_append_left _ ha) (fun z => hd a ha (s1 a z)) u q) q1 fun a ha hb => ?_, fun a ha => ?_⟩
    · rcases q2 a hb with q | q
      · exact hd a ha q
      · rcases h2 a q with z | z
        · exact hd a ha (s1 a z)
        · exact r.ne a ha z
    · rcases List.mem_append.mp ha with q | q
      · exact .inl (List.mem_append_left _ q)
      · rcases q2 a q with z | z
        · exact .inl (List.mem_append_right _ z)
        · exact .inr z
theorem zip_at : ∀ {fs : List Str} {vs : List V} {k : Nat} {v : V}, fs.length = vs.length → vs[k]? = some v → ∃ x, (fs.zip vs)[k]? = some (x, v)
  | [], [], k, v, _, e => by simp at e
  | f :: fs, w :: vs, 0, v, _, e => by
    simp at e
    subst e
    exact ⟨f, rfl⟩
  | f :: fs, w :: vs, k + 1, v, h, e => by
    obtain ⟨x, q⟩ := zip_at (fs := fs) (vs := vs) (k := k) (v := v) (by simpa using h) (by simpa using e)
    exact ⟨x, by simpa using q⟩
  | [], _ :: _, _, _, h, _ => by simp at h
  | _ :: _, [], _, _, h, _ => by simp at h
/-- what stands at a place, and another thing in its place -/
theorem OwR.focus : ∀ (p : List Nat) {v : V} {o : Own} {fp : List Addr} {o1 : Own}, OwR K G H v o fp → o.get p = some o1 → ∃ v1 f1, vAt H v p = some v1 ∧ OwR K G H v1 o1 f1 ∧ (∀ a ∈ f1, a ∈ fp) ∧
    (∀ H2, (∀ a ∈ fp, ∀ u, H a = some u → H2 a = some u) → vAt H2 v p = some v1) ∧
    ∀ G2 H2 o2 f2, Same G G2 → (∀ a ∈ fp, a ∉ f1 → ∀ u, H a = some u → H2 a = some u) → OwR K G2 H2 v1 o2 f2 → (∀ a ∈ f2, a ∈ f1 ∨ H a = none) → ∃ fp2, OwR K G2 H2 v (Own.put o2 o p) fp2 ∧ ∀ a ∈ fp2, a ∈ fp ∨ a ∈ f2
  | [], v, o, fp, o1, r, e => by
    cases e
    exact ⟨v, fp, by cases v <;> rfl, r, fun _ h => h, fun _ _ => by cases v <;> rfl, fun G2 H2 o2 f2 _ _ r2 _ => ⟨f2, r2, fun a ha => .inr ha⟩⟩
  | k :: p, v, o, fp, o1, r, e => by
    cases r with
    | dat _ => cases e
    | dct _ _ _ _ => cases e
    | dki _ _ _ _ _ => cases e
    | dkt _ _ _ _ _ => cases e
    | dkl _ _ _ _ _ => cases e
    | dtl _ _ _ _ _ => cases e
    | @lst a vs os f q t nf =>
      simp only [Own.get, Own.kids] at e
      cases hc : os[k]? with
      | none =>
        rw [hc] at e
        cases e
      | some c =>
        rw [hc] at e
        obtain ⟨vc, fc, c1, c2, c3, c4⟩ := OwsR.focus t hc
        obtain ⟨v1, f1, d1, d2, d3, d4, d5⟩ := OwR.focus p c2 e
        refine ⟨v1, f1, ?_, d2, fun b hb => List.mem_cons_of_mem _ (c3 b (d3 b hb)), fun H2 hk => ?_, fun G2 H2 o2 f2 sg hk r2 h2 => ?_⟩
        · simp only [vAt, q, c1, Option.bind_some]
          exact d1
        · simp only [vAt, hk a List.mem_cons_self _ q, c1, Option.bind_some]
          exact d4 H2 fun b hb => hk b (List.mem_cons_of_mem _ (c3 b hb))
        · have ha1 : a ∉ f1 := fun z => nf (c3 a (d3 a z))
          obtain ⟨g1, x1, x2⟩ := d5 G2 H2 o2 f2 sg (fun b hb => hk b (List.mem_cons_of_mem _ (c3 b hb))) r2 h2
          obtain ⟨g2, y1, y2⟩ := c4 G2 H2 _ g1 sg (fun b hb hn => hk b (List.mem_cons_of_mem _ hb) fun z => hn (d3 b z)) x1 (fun b hb => by
            rcases x2 b hb with z | z
            · exact .inl z
            · rcases h2 b z with z | z
              · exact .inl (d3 b z)
              · exact .inr z)
          refine ⟨a :: g2, ?_, fun b hb => ?_⟩
          · simp only [Own.put, Own.kids, hc, Own.withKids]
            refine .lst (hk a List.mem_cons_self ha1 _ q) y1 fun z => ?_
            rcases y2 a z with z | z
            · exact nf z
            · rcases x2 a z with z | z
              · exact nf (c3 a z)
              · rcases h2 a z with z | z
                · exact ha1 z
                · rw [q] at z
                  cases z
          · rcases List.mem_cons.mp hb with rfl | hb
            · exact .inl List.mem_cons_self
            · rcases y2 b hb with z | z
              · exact .inl (List.mem_cons_of_mem _ z)
              · rcases x2 b z with z | z
                · exact .inl (List.mem_cons_of_mem _ (c3 b z))
                · exact .inr z
    | @tup a vs os f q t nf =>
      simp only [Own.get, Own.kids] at e
      cases hc : os[k]? with
      | none =>
        rw [hc] at e
        cases e
      | some c =>
        rw [hc] at e
        obtain ⟨vc, fc, c1, c2, c3, c4⟩ := OwsR.focus t hc
        obtain ⟨v1, f1, d1, d2, d3, d4, d5⟩ := OwR.focus p c2 e
        refine ⟨v1, f1, ?_, d2, fun b hb => List.mem_cons_of_mem _ (c3 b (d3 b hb)), fun H2 hk => ?_, fun G2 H2 o2 f2 sg hk r2 h2 => ?_⟩
        · simp only [vAt, q, c1, Option.bind_some]
          exact d1
        · simp only [vAt, hk a List.mem_cons_self _ q, c1, Option.bind_some]
          exact d4 H2 fun b hb => hk b (List.mem_cons_of_mem _ (c3 b hb))
        · have ha1 : a ∉ f1 := fun z => nf (c3 a (d3 a z))
          obtain ⟨g1, x1, x2⟩ := d5 G2 H2 o2 f2 sg (fun b hb => hk b (List.mem_cons_of_mem _ (c3 b hb))) r2 h2
          obtain ⟨g2, y1, y2⟩ := c4 G2 H2 _ g1 sg (fun b hb hn => hk b (List.mem_cons_of_mem _ hb) fun z => hn (d3 b z)) x1 (fun b hb => by
            rcases x2 b hb with z | z
            · exact .inl z
            · rcases h2 b z with z | z
              · exact .inl (d3 b z)
              · exact .inr z)
          refine ⟨a :: g2, ?_, fun b hb => ?_⟩
          · simp only [Own.put, Own.kids, hc, Own.withKids]
            refine .tup (hk a List.mem_cons_self ha1 _ q) y1 fun z => ?_
            rcases y2 a z with z | z
            · exact nf z
            · rcases x2 a z with z | z
              · exact nf (c3 a z)
              · rcases h2 a z with z | z
                · exact ha1 z
                · rw [q] at z
                  cases z
          · rcases List.mem_cons.mp hb with rfl | hb
            · exact .inl List.mem_cons_self
            · rcases y2 b hb with z | z
              · exact .inl (List.mem_cons_of_mem _ z)
              · rcases x2 b z with z | z
                · exact .inl (List.mem_cons_of_mem _ (c3 b z))
                · exact .inr z
    | @ins a C dx fs vs os f q q' l1 l2 t nf nd =>
      simp only [Own.get, Own.kids] at e
      cases hc : os[k]? with
      | none =>
        rw [hc] at e
        cases e
      | some c =>
        rw [hc] at e
        obtain ⟨vc, fc, c1, c2, c3, c4⟩ := OwsR.focus t hc
        obtain ⟨v1, f1, d1, d2, d3, d4, d5⟩ := OwR.focus p c2 e
        obtain ⟨nm, hz⟩ := zip_at l2 c1
        have up : ∀ b, b ∈ f → b ∈ a :: dx :: f := fun b hb => List.mem_cons_of_mem _ (List.mem_cons_of_mem _ hb)
        refine ⟨v1, f1, ?_, d2, fun b hb => up b (c3 b (d3 b hb)), fun H2 hk => ?_, fun G2 H2 o2 f2 sg hk r2 h2 => ?_⟩
        · simp only [vAt, q, hz, Option.bind_some]
          exact d1
        · simp only [vAt, hk a List.mem_cons_self _ q, hz, Option.bind_some]
          exact d4 H2 fun b hb => hk b (up b (c3 b hb))
        · have ha1 : a ∉ f1 := fun z => nf (c3 a (d3 a z))
          have hd1 : dx ∉ f1 := fun z => nd (c3 dx (d3 dx z))
          obtain ⟨g1, x1, x2⟩ := d5 G2 H2 o2 f2 sg (fun b hb => hk b (up b (c3 b hb))) r2 h2
          obtain ⟨g2, y1, y2⟩ := c4 G2 H2 _ g1 sg (fun b hb hn => hk b (up b hb) fun z => hn (d3 b z)) x1 (fun b hb => by
            rcases x2 b hb with z | z
            · exact .inl z
            · rcases h2 b z with z | z
              · exact .inl (d3 b z)
              · exact .inr z)
          have out : ∀ b u, b ∉ f → b ∉ f1 → H b = some u → b ∉ g2 := fun b u n1 n2 hb z => by
            rcases y2 b z with z | z
            · exact n1 z
            · rcases x2 b z with z | z
              · exact n1 (c3 b z)
              · rcases h2 b z with z | z
                · exact n2 z
                · rw [hb] at z
                  cases z
          refine ⟨a :: dx :: g2, ?_, fun b hb => ?_⟩
          · simp only [Own.put, Own.kids, hc, Own.withKids]
            exact .ins (hk a List.mem_cons_self ha1 _ q) (hk dx (List.mem_cons_of_mem _ List.mem_cons_self) hd1 _ q') l1 l2 y1 (out a _ nf ha1 q) (out dx _ nd hd1 q')
          · rcases List.mem_cons.mp hb with rfl | hb
            · exact .inl List.mem_cons_self
            · rcases List.mem_cons.mp hb with rfl | hb
              · exact .inl (List.mem_cons_of_mem _ List.mem_cons_self)
              · rcases y2 b hb with z | z
                · exact .inl (up b z)
                · rcases x2 b z with z | z
                  · exact .inl (up b (c3 b z))
                  · exact .inr z
end
end DL

set_option Elab.async false
set_option linter.all false
set_option autoImplicit false
set_option maxRecDepth 100000
namespace DL
open PySem PySem.Spec PyProof.Rows L2
/-! ### expressions for places -/
/-- a state that is told as a tree -/
class MOw (S : Type) extends MSt S where
  ow : S → Option Own
  wr : S → Own → S
  out : ∀ {K : PySem.W.Frag} {G H : Hp} {b : Bo} {s : S} {o : Own}, ow s = some o → At K G H b s → ∃ f, OwR K G H (.ref b.ad) o f ∧ ∀ a ∈ f, a ∈ b.fp
  back : ∀ {K : PySem.W.Frag} {G H : Hp} {b : Bo} {s : S} {o o' : Own} {f : List Addr}, ow s = some o → OwR K G H (.ref b.ad) o' f → (∀ a ∈ f, a ∈ b.fp) → (∀ a ∈ b.fp, H a ≠ none) → At K G H b (wr s o')
instance : MOw Nat where
  ow := fun _ => none
  wr := fun s _ => s
  out := fun h => nomatch h
  back := fun h => nomatch h
instance : MOw Own where
  ow := some
  wr := fun _ o => o
  out := fun h ⟨f, r, q, _⟩ => by
    cases h
    exact ⟨f, r, q⟩
  back := fun _ r q h => ⟨_, r, q, h⟩
structure Plc where
  root : Option Nat
  path : List Nat
def PlV (bo : Option Bo) (σ : L2.St) (H : Hp) (pl : Plc) (v : V) : Prop :=
  match pl.root with
  | some i => ∃ w, σ[i]? = some (some w) ∧ vAt H w pl.path = some v
  | none => ∃ b, bo = some b ∧ vAt H (.ref b.ad) pl.path = some v
theorem PlV.inj {bo : Option Bo} {σ : L2.St} {H : Hp} {pl : Plc} {v w : V} (h : PlV bo σ H pl v) (h' : PlV bo σ H pl w) : v = w := by
  obtain ⟨r, p⟩ := pl
  cases r with
  | some i =>
    obtain ⟨x, a, b⟩ := h
    obtain ⟨y, c, d⟩ := h'
    rw [a] at c
    cases c
    rw [b] at d
    exact Option.some.inj d
  | none =>
    obtain ⟨x, a, b⟩ := h
    obtain ⟨y, c, d⟩ := h'
    rw [a] at c
    cases c
    rw [b] at d
    exact Option.some.inj d
variable {S : Type} [MOw S]
/-- the whole thing that a place is in -/
def plRoot (ε : En) (n : S) (r : Option Nat) : Option Own :=
  match r with
  | some i => match ε[i]? with
    | some s => s.own
    | none => none
  | none => MOw.ow n
def plGet (ε : En) (n : S) (pl : Plc) : Option Own :=
  match plRoot ε n pl.root with
  | some o => o.get pl.path
  | none => none
def plEnv (ε : En) (n : S) (pl : Plc) (o' : Own) : En :=
  match pl.root with
  | some i => match plRoot ε n (some i) with
    | some o => ε.set i (.ob (Own.put o' o pl.path))
    | none => ε
  | none => ε
def plSt (ε : En) (n : S) (pl : Plc) (o' : Own) : S :=
  match pl.root with
  | some i => n
  | none => match plRoot ε n none with
    | some o => MOw.wr n (Own.put o' o pl.path)
    | none => n
section
variable {K : PySem.W.Frag} {bo : Option Bo} {G0 H0 : Hp} {σ : L2.St} {H G : Hp} {ε : En} {n : S}
theorem Rl.place (r : Rl K bo G0 H0 σ H G ε n) {pl : Plc} {o1 : Own} (h : plGet ε n pl = some o1) (hb : pl.root = none → ∃ b, bo = some b) :
    ∃ v1 f1, PlV bo σ H pl v1 ∧ OwR K G H v1 o1 f1 ∧ (∀ a ∈ f1, G a = none) ∧
      (∀ H2, (∀ a u, H a = some u → H2 a = some u) → PlV bo σ H2 pl v1) ∧
      ∀ G2 H2 o2 f2, Same G G2 → Same G2 H2 → (∀ a, H a ≠ none → G a = none → G2 a = none) → (∀ a u, a ∉ f1 → H a = some u → H2 a = some u) → (∀ a, H a ≠ none → H2 a ≠ none) → OwR K G2 H2 v1 o2 f2 →
        (∀ a ∈ f2, a ∈ f1 ∨ (pl.root ≠ none ∧ H a = none ∧ G2 a = none)) → Rl K bo G0 H0 σ H2 G2 (plEnv ε n pl o2) (plSt ε n pl o2) := by
  obtain ⟨rt, p⟩ := pl
  unfold plGet at h
  cases rt with
  | some i =>
    simp only [plRoot] at h
    cases hi : ε[i]? with
    | none =>
      rw [hi] at h
      cases h
    | some s =>
      rw [hi] at h
      cases ho : s.own with
      | none =>
        simp only [ho] at h
        cases h
      | some o =>
        simp only [ho] at h
        obtain ⟨v, f, hv, hr, hf, hk⟩ := r.putOb hi ho
        obtain ⟨v1, f1, c1, c2, c3, c4, c5⟩ := OwR.focus p hr h
        refine ⟨v1, f1, ⟨_, hv, c1⟩, c2, fun a ha => (hf a (c3 a ha)).1, fun H2 q => ⟨_, hv, c4 H2 fun a _ u z => q a u z⟩, fun G2 H2 o2 f2 sg sh hfr hkp hst0 r2 h2 => ?_⟩
        obtain ⟨fp2, x1, x2⟩ := c5 G2 H2 o2 f2 sg (fun a _ hn u q => hkp a u hn q) r2 fun a ha => (h2 a ha).imp id fun z => z.2.1
        have e1 : plEnv ε n ⟨some i, p⟩ o2 = ε.set i (.ob (Own.put o2 o p)) := by simp only [plEnv, plRoot, hi, ho]
        have e2 : plSt ε n ⟨some i, p⟩ o2 = n := rfl
        rw [e1, e2]
        refine hk (.ob _) _ rfl G2 H2 fp2 sg sh hfr (fun a u hn q => hkp a u (fun z => hn (c3 a z)) q) x1 fun a ha => ?_
        rcases x2 a ha with q | q
        · exact .inl q
        · rcases h2 a q with z | z
          · exact .inl (c3 a z)
          · exact .inr z.2
  | none =>
    obtain ⟨b, rfl⟩ := hb rfl
    simp only [plRoot] at h
    cases ho : MOw.ow n with
    | none =>
      rw [ho] at h
      cases h
    | some o =>
      rw [ho] at h
      obtain ⟨f, hr, hf⟩ := MOw.out ho r.bx
      obtain ⟨v1, f1, c1, c2, c3, c4, c5⟩ := OwR.focus p hr h
      refine ⟨v1, f1, ⟨b, rfl, c1⟩, c2, fun a ha => r.gb a (hf a (c3 a ha)), fun H2 q => ⟨b, rfl, c4 H2 fun a _ u z => q a u z⟩, fun G2 H2 o2 f2 sg sh hfr hkp hst0 r2 h2 => ?_⟩
      have h2' : ∀ a ∈ f2, a ∈ f1 := fun a ha => (h2 a ha).elim id fun z => absurd rfl z.1
      obtain ⟨fp2, x1, x2⟩ := c5 G2 H2 o2 f2 sg (fun a _ hn u q => hkp a u hn q) r2 fun a ha => .inl (h2' a ha)
      have e1 : plEnv ε n ⟨none, p⟩ o2 = ε := rfl
      have e2 : plSt ε n ⟨none, p⟩ o2 = MOw.wr n (Own.put o2 o p) := by simp only [plSt, plRoot, ho]
      rw [e1, e2]
      have hsub : ∀ a ∈ fp2, a ∈ b.fp := fun a ha => by
        rcases x2 a ha with q | q
        · exact hf a q
        · exact hf a (c3 a (h2' a q))
      have hst : ∀ a ∈ b.fp, H2 a ≠ none := fun a ha => hst0 a (r.bx.some_ne ha)
      have hH : ∀ c, H0 c ≠ none → H c ≠ none := fun c q => by
        by_cases e : Has (some b) c
        · exact r.bx.some_ne e
        · exact st_ne q fun u z => r.gr.kp c u e z
      obtain ⟨fp, g1, g2, g3⟩ := r.own
      refine ⟨⟨r.gr.gg.trans sg, sh, fun c q1 q2 => hfr c (hH c q1) (r.gr.fr c q1 q2), fun c u hc q => hkp c u (fun z => hc (hf c (c3 c z))) (r.gr.kp c u hc q)⟩, MOw.back ho x1 hsub hst, fun a ha => hfr a (r.bx.some_ne ha) (r.gb a ha), r.ln, fun i d q => ?_, r.bs, fun i o' q => ?_, fp, g1, fun i a ha => ?_, fun i s o q1 q2 => ?_⟩
      · obtain ⟨w, w1, w2⟩ := r.im i d q
        exact ⟨w, w1, dp_mono sg w2⟩
      · obtain ⟨w, f', w1, w2⟩ := r.rd i o' q
        exact ⟨w, f', w1, w2.up sg⟩
      · obtain ⟨q1, q2, q3, q4⟩ := g2 i a ha
        exact ⟨hfr a q4 q1, q2, q3, hst0 a q4⟩
      · obtain ⟨w, w1, w2⟩ := g3 i s o q1 q2
        exact ⟨w, w1, w2.keep sg fun a ha u q => hkp a u (fun z => (g2 i a ha).2.1 (hf a (c3 a z))) q⟩
/-- only data are looked at: nothing changes -/
def imS : Sl → Sl
  | .im d => .im d
  | .rd o => .rd o
  | _ => .no
theorem Rl.pure (r : Rl K bo G0 H0 σ H G ε n) : Rl K none G H σ H G (ε.map imS) n := by
  have key : ∀ s : Sl, imS s ≠ .bx ∧ (imS s).own = none := fun s => by cases s <;> exact ⟨(fun z => nomatch z), rfl⟩
  refine ⟨Grow.refl r.gh, trivial, fun _ z => z.elim, by rw [List.length_map]; exact r.ln, fun i d q => ?_, fun i q => ?_, fun i o q => ?_, fun _ => [], fun _ _ _ _ h => (nomatch h), fun _ _ h => (nomatch h), fun i s o q ho => ?_⟩
  · rw [List.getElem?_map, Option.map_eq_some_iff] at q
    obtain ⟨s, q1, q2⟩ := q
    cases s <;> cases q2
    exact r.im i d q1
  · rw [List.getElem?_map, Option.map_eq_some_iff] at q
    obtain ⟨s, _, q⟩ := q
    exact absurd q (key s).1
  · rw [List.getElem?_map, Option.map_eq_some_iff] at q
    obtain ⟨s, q1, q2⟩ := q
    cases s <;> cases q2
    exact r.rd i o q1
  · rw [List.getElem?_map, Option.map_eq_some_iff] at q
    obtain ⟨t, _, rfl⟩ := q
    rw [(key t).2] at ho
    cases ho
end
abbrev DPt (S : Type) := En → S → (Plc → S → Prop) → Prop
def SP (K : PySem.W.Frag) (te : TE) (dp : DPt S) : Prop := ∀ (bo : Option Bo) (G0 H0 : Hp) (σ : L2.St) (H G : Hp) (ε : En) (n : S) (P : Plc → S → Prop) (Q : VK), Rl K bo G0 H0 σ H G ε n → dp ε n P →
  (∀ v G' H' pl, Grow none G H G' H' → PlV bo σ H' pl v → (pl.root = none → ∃ b, bo = some b) → P pl n → Q v H') → te σ H Q
structure DP (K : PySem.W.Frag) (X : Cx) (e : Expr) (te : TE) (dp : DPt S) : Prop where
  pe : PE X e te
  se : SP K te dp
section
variable {X : Cx} {K : PySem.W.Frag} {e a : Expr} {te ta : TE} {de da : DEt S} {dp : DPt S} {p pos : Pos}
omit [MOw S] in
def dpVar (i : Nat) : DPt S := fun ε n P => (∃ s o, ε[i]? = some s ∧ s.own = some o) ∧ P ⟨some i, []⟩ n
omit [MOw S] in
def dpBx (i : Nat) : DPt S := fun ε n P => ε[i]? = some .bx ∧ P ⟨none, []⟩ n
theorem vAt_nil (H : Hp) (v : V) : vAt H v [] = some v := by cases v <;> rfl
theorem dp_var (i : Nat) {x : Str} (hN : X.N[i]? = some x := by rfl) (hv : Vis X.env.scope x := by first | exact Or.inl rfl | exact Or.inr (Or.inl rfl) | exact Or.inr (Or.inr rfl)) (hd : (x == ("__debug__" : Str)) = false := by decide)
    (hcd : (x == ("__classdict__" : Str)) = false := by decide) (hK : X.K = K := by rfl) : DP K X (.Name x pos) (tVar i) (dpVar (S := S) i) := by
  subst hK
  exact ⟨pe_var hN hv hd hcd, fun bo G0 H0 σ H G ε n P Q R hp k => by
    obtain ⟨⟨s, o, h1, h2⟩, h3⟩ := hp
    obtain ⟨v, f, hv, _⟩ := R.putOb h1 h2
    exact ⟨v, hv, k v G H ⟨some i, []⟩ (Grow.refl R.gh) ⟨v, hv, vAt_nil H v⟩ (fun z => nomatch z) h3⟩⟩
theorem dp_bx (i : Nat) {x : Str} (hN : X.N[i]? = some x := by rfl) (hv : Vis X.env.scope x := by first | exact Or.inl rfl | exact Or.inr (Or.inl rfl) | exact Or.inr (Or.inr rfl)) (hd : (x == ("__debug__" : Str)) = false := by decide)
    (hcd : (x == ("__classdict__" : Str)) = false := by decide) (hK : X.K = K := by rfl) : DP K X (.Name x pos) (tVar i) (dpBx (S := S) i) := by
  subst hK
  exact ⟨pe_var hN hv hd hcd, fun bo G0 H0 σ H G ε n P Q R hp k => by
    obtain ⟨b, h1, h2⟩ := R.bs i hp.1
    exact ⟨.ref b.ad, h2, k _ G H ⟨none, []⟩ (Grow.refl R.gh) ⟨b, h1, vAt_nil H _⟩ (fun _ => ⟨b, h1⟩) hp.2⟩⟩
theorem vAt_app {H : Hp} : ∀ (p : List Nat) {v w : V} {k : Nat}, vAt H v p = some w → vAt H v (p ++ [k]) = vAt H w [k]
  | [], v, w, k, h => by
    rw [vAt_nil] at h
    cases h
    rfl
  | j :: p, v, w, k, h => by
    cases v with
    | ref a =>
      simp only [vAt, List.cons_append] at h ⊢
      cases hH : H a with
      | none =>
        rw [hH] at h
        cases h
      | some o =>
        rw [hH] at h
        cases o with
        | lst vs =>
          simp only at h ⊢
          cases hj : vs[j]? with
          | none =>
            rw [hj] at h
            cases h
          | some u =>
            rw [hj] at h
            exact vAt_app p h
        | tup vs =>
          simp only at h ⊢
          cases hj : vs[j]? with
          | none =>
            rw [hj] at h
            cases h
          | some u =>
            rw [hj] at h
            exact vAt_app p h
        | ins C dx fs =>
          simp only at h ⊢
          cases hj : fs[j]? with
          | none =>
            rw [hj] at h
            cases h
          | some u =>
            rw [hj] at h
            exact vAt_app p h
        | _ => cases h
    | _ => cases h
theorem get_app : ∀ (p : List Nat) {o o1 : Own} {k : Nat}, o.get p = some o1 → o.get (p ++ [k]) = o1.get [k]
  | [], o, o1, k, h => by
    cases h
    rfl
  | j :: p, o, o1, k, h => by
    simp only [Own.get, List.cons_append] at h ⊢
    cases hk : o.kids with
    | none =>
      rw [hk] at h
      cases h
    | some os =>
      rw [hk] at h
      simp only at h ⊢
      cases hj : os[j]? with
      | none =>
        rw [hj] at h
        cases h
      | some c =>
        rw [hj] at h
        exact get_app p h
omit [MOw S] in
theorem PlV.ext {bo : Option Bo} {σ : L2.St} {H : Hp} {pl : Plc} {w u : V} {j : Nat} (h : PlV bo σ H pl w) (e : vAt H w [j] = some u) : PlV bo σ H ⟨pl.root, pl.path ++ [j]⟩ u := by
  obtain ⟨rt, p⟩ := pl
  cases rt with
  | some i =>
    obtain ⟨x, h1, h2⟩ := h
    exact ⟨x, h1, (vAt_app p h2).trans e⟩
  | none =>
    obtain ⟨x, h1, h2⟩ := h
    exact ⟨x, h1, (vAt_app p h2).trans e⟩
/-- P[k] -/
def dpIx (dp : DPt S) (dk : DEt S) : DPt S := fun ε n P => dp ε n fun pl n1 => dk (ε.map imS) n1 fun kd _ => ∃ (k : Nat) (os : List Own), kd = .int (k : Int) ∧ (plGet ε n1 pl = some (.lst os) ∨ plGet ε n1 pl = some (.tup os)) ∧ k < os.length ∧ P ⟨pl.root, pl.path ++ [k]⟩ n1
theorem ixN_nat {m k : Nat} (h : k < m) : ixN m (k : Int) = some k := by
  unfold ixN
  rw [if_pos (by omega), if_pos (by omega)]
  rfl
theorem dp_ix (ha : DP K X a ta dp) (hb : DE K X e te de) (hs : PlainIx e) (hK : X.K = K := by rfl) : DP K X (.Subscript a e pos) (tOp (rIx K) ta te) (dpIx dp de) := by
  subst hK
  exact ⟨pe_ix ix_seq ha.pe hb.pe hs, fun bo G0 H0 σ H G ε n P Q R hp k =>
    ha.se bo G0 H0 σ H G ε n _ _ R hp fun v G1 H1 pl g1 pv hb1 h1 => by
      have R1 := R.grow g1.any (R.bx.grow g1)
      refine hb.se none _ _ σ H1 G1 _ n _ _ R1.pure h1 fun kv G2 H2 kd n2 g2 _ pk h2 => ?_
      obtain ⟨j, os, rfl, hg, hj, h2⟩ := h2
      cases pk
      have hkp : ∀ a u, H1 a = some u → H2 a = some u := fun a u q => g2.kp a u (fun z => z) q
      rcases hg with hg | hg
      · obtain ⟨v1, f1, c1, c2, _, c4, _⟩ := R1.place hg hb1
        cases pv.inj c1
        cases c2 with
        | @lst l vs _ f q t nf =>
          have hjv : j < vs.length := by rw [t.len]; exact hj
          refine .inl ⟨l, vs, (j : Int), vs[j], rfl, rfl, .inl (.inl (hkp l _ q)), ?_, k _ G2 H2 ⟨pl.root, pl.path ++ [j]⟩ (g1.trans (S := S) (n := n) (K := X.K) trivial g2) ((c4 H2 hkp).ext ?_) hb1 h2⟩
          · show (ixN vs.length (j : Int)).bind _ = _
            rw [ixN_nat hjv]
            exact List.getElem?_eq_getElem hjv
          · simp only [vAt, hkp l _ q, List.getElem?_eq_getElem hjv, Option.bind_some]
      · obtain ⟨v1, f1, c1, c2, _, c4, _⟩ := R1.place hg hb1
        cases pv.inj c1
        cases c2 with
        | @tup l vs _ f q t nf =>
          have hjv : j < vs.length := by rw [t.len]; exact hj
          refine .inr (.inl ⟨l, vs, (j : Int), vs[j], rfl, rfl, .inl (.inl (hkp l _ q)), ?_, k _ G2 H2 ⟨pl.root, pl.path ++ [j]⟩ (g1.trans (S := S) (n := n) (K := X.K) trivial g2) ((c4 H2 hkp).ext ?_) hb1 h2⟩)
          · show (ixN vs.length (j : Int)).bind _ = _
            rw [ixN_nat hjv]
            exact List.getElem?_eq_getElem hjv
          · simp only [vAt, hkp l _ q, List.getElem?_eq_getElem hjv, Option.bind_some]⟩
end
end DL

set_option Elab.async false
set_option linter.all false
set_option autoImplicit false
set_option maxRecDepth 100000
namespace DL
open PySem PySem.Spec PyProof.Rows L2
variable {S : Type} [MOw S]
section
variable {K : PySem.W.Frag} {bo : Option Bo} {G0 H0 : Hp} {σ : L2.St} {H G G1 H1 : Hp} {ε : En} {n : S}
/-- a pure part's end -/
theorem Rl.after (r : Rl K bo G0 H0 σ H G ε n) (g : Grow none G H G1 H1) : Rl K bo G0 H0 σ H1 G1 ε n := r.grow g.any (r.bx.grow g)
/-- a thing of one's own is made another one, by a part that may also have changed the one thing -/
theorem Rl.putObG (r : Rl K bo G0 H0 σ H G ε n) {i : Nat} {s : Sl} {o : Own} (hi : ε[i]? = some s) (ho : s.own = some o) :
    ∃ v f, σ[i]? = some (some v) ∧ OwR K G H v o f ∧ (∀ a ∈ f, G a = none ∧ ¬ Has bo a ∧ H0 a = none) ∧ ∀ (t : Sl) (o2 : Own), t.own = some o2 → ∀ (G2 H2 : Hp) (f2 : List Addr) (n2 : S), Same G G2 → Same G2 H2 → (∀ a, H a ≠ none → G a = none → G2 a = none) → (∀ a u, a ∉ f → ¬ Has bo a → H a = some u → H2 a = some u) → BoxO K G2 H2 bo n2 → OwR K G2 H2 v o2 f2 →
      (∀ a ∈ f2, a ∈ f ∨ (H a = none ∧ G2 a = none)) → Rl K bo G0 H0 σ H2 G2 (ε.set i t) n2 := by
  obtain ⟨fp, h1, h2, h3⟩ := r.own
  obtain ⟨v, hv, hr⟩ := h3 i s o hi ho
  refine ⟨v, fp i, hv, hr, fun a ha => ⟨(h2 i a ha).1, (h2 i a ha).2.1, (h2 i a ha).2.2.1⟩, fun t o2 ht G2 H2 f2 n2 sg sh hfr hk hb2 hr2 hf2 => ?_⟩
  have hH : ∀ c, H0 c ≠ none → H c ≠ none := fun c q => by
    by_cases e : Has bo c
    · exact r.bx.some_ne e
    · exact st_ne q fun u z => r.gr.kp c u e z
  refine ⟨⟨r.gr.gg.trans sg, sh, fun c q1 q2 => hfr c (hH c q1) (r.gr.fr c q1 q2), fun c u hc q => hk c u (fun z => ?_) hc (r.gr.kp c u hc q)⟩, hb2, fun b e => hfr b (r.bx.some_ne e) (r.gb b e), by rw [List.length_set]; exact r.ln, fun j e q => ?_, fun j q => ?_, fun j o q => ?_, ?_⟩
  · have := (h2 i c z).2.2.1
    rw [q] at this
    cases this
  · rcases get_set q with ⟨rfl, _, z⟩ | ⟨hne, q⟩
    · subst z
      cases ht
    · obtain ⟨w, q1, q2⟩ := r.im j e q
      exact ⟨w, q1, dp_mono sg q2⟩
  · rcases get_set q with ⟨rfl, _, z⟩ | ⟨hne, q⟩
    · subst z
      cases ht
    · exact r.bs j q
  · rcases get_set q with ⟨rfl, _, z⟩ | ⟨hne, q⟩
    · subst z
      cases ht
    · obtain ⟨w, f, q1, q2⟩ := r.rd j o q
      exact ⟨w, f, q1, q2.up sg⟩
  · refine ⟨fun j => if j = i then f2 else fp j, fun j k a hjk ha hb => ?_, fun j a ha => ?_, fun j t' u q hu => ?_⟩
    · by_cases e1 : j = i
      · have e2 : k ≠ i := fun z => hjk (e1.trans z.symm)
        simp only [if_pos e1] at ha
        simp only [if_neg e2] at hb
        rcases hf2 a ha with q | q
        · exact h1 i k a (Ne.symm e2) q hb
        · exact (h2 k a hb).2.2.2 q.1
      · simp only [if_neg e1] at ha
        by_cases e2 : k = i
        · simp only [if_pos e2] at hb
          rcases hf2 a hb with q | q
          · exact h1 i j a (Ne.symm e1) q ha
          · exact (h2 j a ha).2.2.2 q.1
        · simp only [if_neg e2] at hb
          exact h1 j k a hjk ha hb
    · by_cases e1 : j = i
      · simp only [if_pos e1] at ha
        rcases hf2 a ha with q | q
        · obtain ⟨q1, q2, q3, q4⟩ := h2 i a q
          exact ⟨hfr a q4 q1, q2, q3, hr2.ne a ha⟩
        · exact ⟨q.2, fun z => r.bx.some_ne z q.1, r.gr.back r.bx q.1, hr2.ne a ha⟩
      · simp only [if_neg e1] at ha
        obtain ⟨q1, q2, q3, q4⟩ := h2 j a ha
        exact ⟨hfr a q4 q1, q2, q3, st_ne q4 fun u z => hk a u (fun z => h1 i j a (Ne.symm e1) z ha) q2 z⟩
    · rcases get_set q with ⟨rfl, hi, z⟩ | ⟨hne, q⟩
      · subst z
        rw [ht] at hu
        cases hu
        exact ⟨v, hv, by simp only [if_true]; exact hr2⟩
      · obtain ⟨w, q3, q4⟩ := h3 j t' u q hu
        refine ⟨w, q3, ?_⟩
        simp only [if_neg (Ne.symm hne)]
        exact q4.keep sg fun a ha u q => hk a u (fun z => h1 i j a hne z ha) (h2 j a ha).2.1 q
/-- a list at a place, another row in it -/
theorem Rl.placeLst (r : Rl K bo G0 H0 σ H G ε n) {pl : Plc} {os : List Own} (h : plGet ε n pl = some (.lst os)) (hb : pl.root = none → ∃ b, bo = some b) :
    ∃ l vs f, PlV bo σ H pl (.ref l) ∧ (∀ H2, (∀ a u, H a = some u → H2 a = some u) → PlV bo σ H2 pl (.ref l)) ∧ H l = some (.lst vs) ∧ OwsR K G H vs os f ∧ l ∉ f ∧ ∀ vs2 os2 f2, OwsR K G H vs2 os2 f2 → (∀ a ∈ f2, a ∈ f) → Rl K bo G0 H0 σ (upd H l (.lst vs2)) G (plEnv ε n pl (.lst os2)) (plSt ε n pl (.lst os2)) := by
  obtain ⟨v1, f1, c1, c2, c3, c4, c5⟩ := r.place h hb
  cases c2 with
  | @lst l vs _ f q t nf =>
    refine ⟨l, vs, f, c1, c4, q, t, nf, fun vs2 os2 f2 r2 hs => ?_⟩
    have hnl : l ∉ f2 := fun z => nf (hs l z)
    refine c5 G _ (.lst os2) (l :: f2) (Same.refl G) (fun c u z => ?_) (fun _ _ z => z) (fun c u hc z => ?_) (fun c z => ?_) (.lst upd_same (r2.keep (Same.refl G) fun a ha u z => by rw [upd_ne (fun e => hnl (by rw [← e]; exact ha))]; exact z) hnl) fun a ha => ?_
    · rw [upd_ne (ne_of_none z (c3 l List.mem_cons_self))]
      exact r.gh c u z
    · rw [upd_ne (fun e => hc (by rw [e]; exact List.mem_cons_self))]
      exact z
    · by_cases e : c = l
      · rw [e, upd_same]
        exact fun z => nomatch z
      · rw [upd_ne e]
        exact z
    · rcases List.mem_cons.mp ha with rfl | ha
      · exact .inl List.mem_cons_self
      · exact .inl (List.mem_cons_of_mem _ (hs a ha))
end
theorem OwsR.app {K : PySem.W.Frag} {G H : Hp} {v : V} {o : Own} {f : List Addr} (h : OwR K G H v o f) : ∀ {vs : List V} {os : List Own} {fs : List Addr}, OwsR K G H vs os fs → (∀ a ∈ fs, a ∉ f) → OwsR K G H (vs ++ [v]) (os ++ [o]) (fs ++ f)
  | _, _, _, .nil, _ => by
    have := OwsR.cons h .nil (fun _ _ z => nomatch z)
    rw [List.append_nil] at this
    exact this
  | _, _, _, .cons (f := g) (fs := gs) r t hd, hn => by
    rw [List.append_assoc]
    exact .cons r (OwsR.app h t fun a ha => hn a (List.mem_append_right _ ha)) fun a ha hb => by
      rcases List.mem_append.mp hb with q | q
      · exact hd a ha q
      · exact hn a (List.mem_append_left _ ha) q
theorem OwsR.rev {K : PySem.W.Frag} {G H : Hp} : ∀ {vs : List V} {os : List Own} {fs : List Addr}, OwsR K G H vs os fs → ∃ f2, OwsR K G H vs.reverse os.reverse f2 ∧ ∀ a ∈ f2, a ∈ fs
  | _, _, _, .nil => ⟨[], .nil, fun _ h => h⟩
  | _, _, _, .cons (f := g) (fs := gs) r t hd => by
    obtain ⟨f2, q1, q2⟩ := OwsR.rev t
    rw [List.reverse_cons, List.reverse_cons]
    refine ⟨f2 ++ g, OwsR.app r q1 fun a ha hb => hd a hb (q2 a ha), fun a ha => ?_⟩
    rcases List.mem_append.mp ha with q | q
    · exact List.mem_append_right _ (q2 a q)
    · exact List.mem_append_left _ q
section
variable {X : Cx} {K : PySem.W.Frag} {e a : Expr} {te ta : TE} {de da : DEt S} {dp : DPt S} {dn : DNt S} {p pos apos cpos pos2 : Pos}
omit [MOw S] in
theorem ty_list {H : Hp} {l : Addr} {vs : List V} (q : H l = some (.lst vs)) : tyV K "list" (.ref l) H := .inl ⟨rfl, vs, .inl (.inl q)⟩
/-- P.append(e) -/
def dAppP (dp : DPt S) (de : DEt S) : DSt S := fun D ε n => dp ε n fun pl _ => ∃ os, plGet ε n pl = some (.lst os) ∧ os.length < 100000 ∧ de (ε.map imS) n fun d _ => D.nx (plEnv ε n pl (.lst (os ++ [.dat d]))) (plSt ε n pl (.lst (os ++ [.dat d])))
theorem ds_appendP (ha : DP K X a ta dp) (h : DE K X e te de) (hbase : attributeBase a "append" X.env (eval a X.env) = eval a X.env := by rfl)
    (hfew : ((backTo cpos (starEach (e :: []) X.env)).all (fun x => !x.1) && (backToKw cpos (keywordEach [] X.env)).all (fun x => x.1.isSome) && decide ((e :: []).length + ([] : List Keyword).length + (if ([] : List Keyword).isEmpty then 0 else 1) < 30)) = true := by rfl)
    (hline : (apos.endLine == cpos.line) = true := by rfl) (hs : starEach (e :: []) X.env = (false, eval e X.env) :: starEach [] X.env := by rfl) (hplain : (backTo cpos (starEach [] X.env)).any (·.1) = false := by rfl)
    (hsw : swapsWith (.Call (.Attribute a "append" apos) [e] [] cpos) none pos2.line X.env = pure false := by rfl) (hK : X.K = K := by rfl) :
    DS K X (.Expr (.Call (.Attribute a "append" apos) [e] [] cpos) pos2) (tDrop (tBM K "list" rAppend ta (tCons te tNil))) (dAppP dp de) := by
  subst hK
  refine ⟨ps_expr (pe_bm PySem.F.plainAttrs_list PySem.F.slot_list_append PySem.F.type_list_append mt_append ha.pe (pa_cons h.pe pa_nil hs) hbase hfew hline hs hplain) hsw, fun bo G0 H0 σ H G ε n D DD r l q =>
    ha.se bo G0 H0 σ H G ε n _ _ r q fun v G1 H1 pl g1 pv hb h1 => ?_⟩
  obtain ⟨os, hg, hl, h1⟩ := h1
  have r1 := r.after g1
  obtain ⟨b0, vs0, f0, a1, a2, a3, _⟩ := r1.placeLst hg hb
  cases pv.inj a1
  refine ⟨ty_list a3, h.se none _ _ σ H1 G1 _ n _ _ r1.pure h1 fun w G2 H2 d n2 g2 _ pd h2 => ?_⟩
  have r2 := r1.after g2
  obtain ⟨b, vs, f, c1, _, c2, c3, c4, c5⟩ := r2.placeLst hg hb
  cases (a2 H2 fun c u z => g2.kp c u (fun z => z) z).inj c1
  exact ⟨b0, vs, w, rfl, rfl, c2, szl (by rw [c3.len]; exact hl), l.nx _ _ G2 _ _ (c5 (vs ++ [w]) (os ++ [.dat d]) (f ++ []) (OwsR.app (.dat pd) c3 (fun _ _ z => nomatch z)) fun a ha => by rwa [List.append_nil] at ha) h2⟩
/-- P.reverse() -/
def dRevP (dp : DPt S) : DSt S := fun D ε n => dp ε n fun pl _ => ∃ os, plGet ε n pl = some (.lst os) ∧ D.nx (plEnv ε n pl (.lst os.reverse)) (plSt ε n pl (.lst os.reverse))
theorem ds_reverseP (ha : DP K X a ta dp) (hbase : attributeBase a "reverse" X.env (eval a X.env) = eval a X.env := by rfl) (hline : (apos.endLine == cpos.line) = true := by rfl)
    (hsw : swapsWith (.Call (.Attribute a "reverse" apos) [] [] cpos) none pos2.line X.env = pure false := by rfl) (hK : X.K = K := by rfl) :
    DS K X (.Expr (.Call (.Attribute a "reverse" apos) [] [] cpos) pos2) (tDrop (tBM0 K "list" rReverse ta)) (dRevP dp) := by
  subst hK
  refine ⟨ps_expr (pe_bm0 PySem.F.plainAttrs_list PySem.F.slot_list_reverse PySem.F.type_list_reverse mt_reverse ha.pe hbase hline) hsw, fun bo G0 H0 σ H G ε n D DD r l q =>
    ha.se bo G0 H0 σ H G ε n _ _ r q fun v G1 H1 pl g1 pv hb h1 => ?_⟩
  obtain ⟨os, hg, h1⟩ := h1
  have r1 := r.after g1
  obtain ⟨b, vs, f, c1, _, c2, c3, c4, c5⟩ := r1.placeLst hg hb
  cases pv.inj c1
  obtain ⟨f2, q1, q2⟩ := c3.rev
  exact ⟨ty_list c2, b, vs, rfl, rfl, c2, l.nx _ _ G1 _ _ (c5 _ _ f2 q1 q2) h1⟩
/-- what stands at a place, where that is data -/
def dLeaf (dp : DPt S) : DEt S := fun ε n P => dp ε n fun pl _ => ∃ d, plGet ε n pl = some (.dat d) ∧ P d n
theorem de_leaf (ha : DP K X a ta dp) (hK : X.K = K := by rfl) : DE K X a ta (dLeaf dp) := by
  subst hK
  exact ⟨ha.pe, fun bo G0 H0 σ H G ε n P Q r q k => ha.se bo G0 H0 σ H G ε n _ _ r q fun v G1 H1 pl g1 pv hb h1 => by
    obtain ⟨d, hg, h1⟩ := h1
    have r1 := r.after g1
    obtain ⟨v1, f1, c1, c2, _⟩ := r1.place hg hb
    cases pv.inj c1
    cases c2 with
    | dat pd => exact k v G1 H1 d n g1.any r1.bx pd h1⟩
/-- len(P) -/
def dLenP (dp : DPt S) : DEt S := fun ε n P => dp ε n fun pl _ => ∃ os, plGet ε n pl = some (.lst os) ∧ P (.int (os.length : Int)) n
theorem de_lenP (hg : Gl X "len") (hm : X.mg "len" = none) (ha : DP K X a ta dp) (he : starEach (a :: []) X.env = (false, eval a X.env) :: starEach [] X.env := by rfl) (hpl : (backTo pos (starEach [] X.env)).any (·.1) = false := by rfl) (hK : X.K = K := by rfl) :
    DE K X (.Call (.Name "len" p) [a] [] pos) (tCB (fun xs H Q => ∃ p ys, xs = [.ref p] ∧ (SqL K H p ys ∨ SqT K H p ys) ∧ Q (.int ys.length) H) (tCons ta tNil)) (dLenP dp) := by
  subst hK
  exact ⟨pe_callB call_len_seq hg hm PySem.boot_len (pa_cons ha.pe pa_nil he) (by decide) (by decide) he hpl, fun bo G0 H0 σ H G ε n P Q r q k => ha.se bo G0 H0 σ H G ε n _ _ r q fun v G1 H1 pl g1 pv hb h1 => by
    obtain ⟨os, hg, h1⟩ := h1
    have r1 := r.after g1
    obtain ⟨b, vs, f, c1, _, c2, c3, c4, c5⟩ := r1.placeLst hg hb
    cases pv.inj c1
    exact ⟨b, vs, rfl, .inl (.inl (.inl c2)), k _ G1 H1 _ n g1.any r1.bx (.int _) (by rw [c3.len]; exact h1)⟩⟩
/-- x.append(e), e a new thing of one's own -/
def dAppN (i : Nat) (dn : DNt S) : DSt S := fun D ε n => ∃ s os, ε[i]? = some s ∧ s.own = some (.lst os) ∧ os.length < 100000 ∧ dn ε n fun o n1 => D.nx (ε.set i (.ob (.lst (os ++ [o])))) n1
theorem ds_appendN (i : Nat) {x : Str} {p1 : Pos} (h : DN K X e te dn) (hN : X.N[i]? = some x := by rfl) (hv : Vis X.env.scope x := by first | exact Or.inl rfl | exact Or.inr (Or.inl rfl) | exact Or.inr (Or.inr rfl)) (hd : (x == ("__debug__" : Str)) = false := by decide) (hcd : (x == ("__classdict__" : Str)) = false := by decide)
    (hbase : attributeBase (.Name x p1) "append" X.env (eval (.Name x p1) X.env) = eval (.Name x p1) X.env := by rfl)
    (hfew : ((backTo cpos (starEach (e :: []) X.env)).all (fun x => !x.1) && (backToKw cpos (keywordEach [] X.env)).all (fun x => x.1.isSome) && decide ((e :: []).length + ([] : List Keyword).length + (if ([] : List Keyword).isEmpty then 0 else 1) < 30)) = true := by rfl)
    (hline : (apos.endLine == cpos.line) = true := by rfl) (hs : starEach (e :: []) X.env = (false, eval e X.env) :: starEach [] X.env := by rfl) (hplain : (backTo cpos (starEach [] X.env)).any (·.1) = false := by rfl)
    (hsw : swapsWith (.Call (.Attribute (.Name x p1) "append" apos) [e] [] cpos) none pos2.line X.env = pure false := by rfl) (hK : X.K = K := by rfl) :
    DS K X (.Expr (.Call (.Attribute (.Name x p1) "append" apos) [e] [] cpos) pos2) (tDrop (tBM K "list" rAppend (tVar i) (tCons te tNil))) (dAppN i dn) := by
  subst hK
  refine ⟨ps_expr (pe_bm PySem.F.plainAttrs_list PySem.F.slot_list_append PySem.F.type_list_append mt_append (pe_var hN hv hd hcd) (pa_cons h.pe pa_nil hs) hbase hfew hline hs hplain) hsw, fun bo G0 H0 σ H G ε n D DD r l q => ?_⟩
  obtain ⟨s, os, hi, ho, hl, q⟩ := q
  obtain ⟨v, f, hv, hr, hf, hk⟩ := r.putObG hi ho
  cases hr with
  | @lst b vs _ fs c2 c3 nf =>
    refine ⟨.ref b, hv, ty_list c2, h.se bo G0 H0 σ H G ε n _ _ r q fun w G1 H1 o g n1 g1 b1 r1 e1 h1 => ?_⟩
    have hnb : ∀ a ∈ b :: fs, ¬ Has bo a := fun a ha => (hf a ha).2.1
    have q2 : H1 b = some (.lst vs) := g1.kp b _ (hnb b List.mem_cons_self) c2
    have c3' : OwsR X.K G1 H1 vs os fs := c3.keep g1.gg fun a ha u z => g1.kp a u (hnb a (List.mem_cons_of_mem _ ha)) z
    have hbg : b ∉ g := fun z => by
      have := (e1 b z).1
      rw [c2] at this
      cases this
    have hbn : b ∉ fs ++ g := fun z => (List.mem_append.mp z).elim nf hbg
    have hb1 : G1 b = none := g1.fr b (by rw [c2]; exact fun z => nomatch z) (hf b List.mem_cons_self).1
    refine ⟨b, vs, w, rfl, rfl, q2, szl (by rw [c3.len]; exact hl), l.nx _ _ G1 _ n1 (hk (.ob (.lst (os ++ [o]))) _ rfl G1 _ (b :: (fs ++ g)) n1 g1.gg (fun c u z => ?_) g1.fr (fun c u hc hn z => ?_) (b1.keep (Same.refl _) fun a ha u z => ?_) (.lst upd_same ((OwsR.app r1 c3' fun a ha hb => c3.ne a ha (e1 a hb).1).keep (Same.refl _) fun a ha u z => ?_) hbn) fun a ha => ?_) h1⟩
    · rw [upd_ne (ne_of_none z hb1)]
      exact g1.gh c u z
    · rw [upd_ne (fun e => hc (by rw [e]; exact List.mem_cons_self))]
      exact g1.kp c u hn z
    · rw [upd_ne (fun e => hnb b List.mem_cons_self (by rw [← e]; exact ha))]
      exact z
    · rw [upd_ne (fun e => hbn (by rw [← e]; exact ha))]
      exact z
    · rcases List.mem_cons.mp ha with rfl | ha
      · exact .inl List.mem_cons_self
      · rcases List.mem_append.mp ha with z | z
        · exact .inl (List.mem_cons_of_mem _ z)
        · exact .inr (e1 a z)
end
end DL

set_option Elab.async false
set_option linter.all false
set_option autoImplicit false
set_option maxRecDepth 100000
namespace DL
open PySem PySem.Spec PyProof.Rows L2 HT
/-! ### t[::-1] of a tuple -/
section
variable {prog : Program} {w : World} {A : Around} {E : Value → Shared → Prop} {s : Shared}
theorem back_applied {sl : Addr} {st : Value} {n : Nat} {Q : Int × Int × Nat → Shared → Prop} (hs : s.heap.IsSliceOf sl .none .none st) (ps : IsPart st (some (-1))) (h : Q ((n : Int) - 1, -1, n) s) : wpAny (model prog w) A (Builtin.Slice.sliceApplied (.ref sl) (pure (n : Int))) Q E s := by
  obtain ⟨ob, ho, _, hf⟩ := id hs
  unfold Builtin.Slice.sliceApplied Builtin.Slice.sliceFields
  refine wpAny_bind (wpAny_bind (wpAny_field ho hf (x := .none) rfl (wpAny_bind (wpAny_field ho hf (x := .none) rfl (wpAny_bind (wpAny_field ho hf (x := st) rfl (wpAny_pure ?g)))))))
  refine wpAny_bind (slicePart_ ps ?h)
  show wpAny _ _ (if ((-1 : Int) == 0) = true then _ else _) _ _ _
  rw [if_neg (show ¬ ((-1 : Int) == 0) = true by decide)]
  refine wpAny_bind (slicePart_none (wpAny_bind (slicePart_none (wpAny_bind (wpAny_pure ?i)))))
  have e1 : Builtin.Slice.sliceAdjust none none (-1) (n : Int) = ((n : Int) - 1, -1) := by
    unfold Builtin.Slice.sliceAdjust
    simp only [show ((-1 : Int) < 0) from by decide, if_true]
  show wpAny _ _ (match Builtin.Slice.sliceAdjust none none (-1) (n : Int) with | (lo, hi) => pure (lo, (-1 : Int), Builtin.Slice.slicePlaces lo hi (-1))) Q E s
  rw [e1]
  have e2 : Builtin.Slice.slicePlaces ((n : Int) - 1) (-1) (-1) = n := by
    unfold Builtin.Slice.slicePlaces
    simp only [show ¬ ((-1 : Int) > 0) from by decide, if_false]
    rw [show (-(-1) : Int) = 1 from rfl, Int.ediv_one]
    split <;> omega
  show wpAny _ _ (pure ((n : Int) - 1, (-1 : Int), Builtin.Slice.slicePlaces ((n : Int) - 1) (-1) (-1))) Q E s
  rw [e2]
  exact wpAny_pure h
theorem fm_congr {α β : Type} {f g : α → Option β} : ∀ {l : List α}, (∀ x ∈ l, f x = g x) → l.filterMap f = l.filterMap g
  | [], _ => rfl
  | a :: l, h => by
    rw [List.filterMap_cons, List.filterMap_cons, h a List.mem_cons_self, fm_congr fun x hx => h x (List.mem_cons_of_mem _ hx)]
theorem pick_back (xs : Array Value) : ((List.range xs.size).filterMap fun (m : Nat) => xs[((xs.size : Int) - 1 + (m : Int) * (-1)).toNat]?) = xs.toList.reverse := by
  have e : ∀ m ∈ List.range xs.size, xs[((xs.size : Int) - 1 + (m : Int) * (-1)).toNat]? = xs.toList.reverse[m]? := fun m hm => by
    have hm := List.mem_range.mp hm
    rw [show ((xs.size : Int) - 1 + (m : Int) * (-1)).toNat = xs.size - 1 - m by omega, List.getElem?_reverse (by rw [Array.length_toList]; exact hm), Array.length_toList, Array.getElem?_toList]
  rw [fm_congr e]
  have key : ∀ (l : List Value), (List.range l.length).filterMap (fun m => l[m]?) = l := fun l => by
    induction l with
    | nil => rfl
    | cons a l ih =>
      rw [List.length_cons, List.range_succ_eq_map, List.filterMap_cons, List.filterMap_map]
      simp only [List.getElem?_cons_zero]
      refine congrArg (a :: ·) ?_
      rw [show ((fun m => (a :: l)[m]?) ∘ Nat.succ) = fun m => l[m]? from by funext m; rfl]
      exact ih
  have := key xs.toList.reverse
  rwa [List.length_reverse, Array.length_toList] at this
theorem getItem_back {t sl : Addr} {xs : Array Value} {st : Value} {Q : Value → Shared → Prop} (ht : IsTup s.heap t xs) (hs : s.heap.IsSliceOf sl .none .none st) (ps : IsPart st (some (-1)))
    (h : Q (.ref s.heap.objs.size) { s with heap := s.heap.push { cls := .type "tuple", data := .seq xs.toList.reverse.toArray } }) (hz : xs.size ≤ sizeLine) : wpAny (model prog w) A (getItem (.ref t) (.ref sl)) Q E s := by
  obtain ⟨ob, ho, hcs, hf⟩ := id hs
  have hT : s.TypeIs (.ref sl) "slice" := ⟨ob, ho, hcs⟩
  have hsz : sizeOk (.seq xs.toList.reverse.toArray) := by
    show xs.toList.reverse.toArray.size ≤ sizeLine
    rw [List.size_toArray, List.length_reverse, Array.length_toList]
    exact hz
  unfold getItem
  try with_reducible refine wpAny_holding ?hold
  first | refine wpAny_bind (wpAny_pure ?pu) | skip
  refine wpAny_bind (wpAny_sequenceKey ht.typeIs (by decide) ?key)
  refine wpAny_bind (wpAny_callSpecial?_slot (name := Str.ofString "__getitem__") ht.typeIs PyProof.Rows.slot_tuple_getitem (wpAny_call_entry PyProof.Rows.slot_tuple_getitem ht.typeIs entry_tuple_getitem ?ent (args_tuple_getitem _ _)))
  show wpAny _ _ (Builtin.Tuple.tupleItemsOf (.ref t) >>= _) _ _ _
  refine wpAny_bind (tupleItemsOf_ ht ?items)
  refine wpAny_bind (wpAny_typeOf hT ?ty)
  rw [if_pos (show ((Value.type "slice" == Value.type "slice") = true) by decide)]
  refine wpAny_bind (back_applied (n := xs.size) hs ps ?app)
  have hno : ¬ ((((xs.size : Int) - 1 == 0) && ((-1 : Int) == 1) && (xs.size == xs.size)) = true) := by
    rw [show ((-1 : Int) == 1) = false from rfl, Bool.and_false, Bool.false_and]
    exact Bool.false_ne_true
  show wpAny _ _ (if (((xs.size : Int) - 1 == 0) && ((-1 : Int) == 1) && (xs.size == xs.size)) = true then _ else _) _ _ _
  rw [if_neg hno, pick_back]
  first
    | exact wpAny_bind (m := Builtin.Tuple.tupleExact _) (wpAny_newObj_type (wpAny_pure ⟨_, rfl, wpAny_pure h⟩) hsz)
    | exact wpAny_bind (m := Builtin.Tuple.tupleExact _) (wpAny_newObj_type (wpAny_bind (wpAny_pure (wpAny_pure ⟨_, rfl, wpAny_pure h⟩))) hsz)
    | exact wpAny_bind (wpAny_bind (m := Builtin.Tuple.tupleExact _) (wpAny_newObj_type (wpAny_pure (wpAny_pure ⟨_, rfl, wpAny_pure h⟩)) hsz))
    | exact wpAny_bind (wpAny_bind (m := Builtin.Tuple.tupleExact _) (wpAny_newObj_type (wpAny_pure ⟨_, rfl, wpAny_pure h⟩) hsz))
end
section
variable {X : Cx}
def tBackT (K : PySem.W.Frag) (te : TE) : TE := fun σ H Q => te σ H fun x H1 => ∃ a xs, x = .ref a ∧ SqT K H1 a xs ∧ ∀ p, H1 p = none → Q (.ref p) (upd H1 p (.tup xs.reverse))
theorem pe_backT {e : Expr} {te : TE} {k : Nat} {p1 p2 p3 pos : Pos} (he : PE X e te) : PE X (.Subscript e (.Slice none none (some (.UnaryOp .USub (.Constant (.int 1) k p1) p2)) p3) pos) (tBackT X.K te) := by
  refine ⟨fun pins s σ H Q I h => Subscript_ (thn (he.run pins s σ H _ I h) fun v s1 ⟨x, H1, I1, r1, q1⟩ => ?_)⟩
  obtain ⟨a, xs, rfl, hx, q⟩ := q1
  cases r1
  have minus : PO X (some (.UnaryOp .USub (.Constant (.int 1) k p1) p2)) (tPart (tUn (rU fun i => .int (-i)) (tC (.int 1)))) := po_some (pe_un un_neg pe_int)
  refine wpAny_Slice (thn (po_none.run pins s1 σ H1 (fun o H2 => o = none ∧ H2 = H1) I1 ⟨rfl, rfl⟩) fun vl s2 ⟨l, H2, I2, pl, el, e2⟩ => ?_)
  subst el e2
  cases pl
  refine thn (po_none.run pins s2 σ H2 (fun o H3 => o = none ∧ H3 = H2) I2 ⟨rfl, rfl⟩) fun vu s3 ⟨u, H3, I3, pu, eu, e3⟩ => ?_
  subst eu e3
  cases pu
  refine thn (minus.run pins s3 σ H3 (fun o H4 => o = some (-1) ∧ H4 = H3) I3 ⟨1, rfl, -1, rfl, rfl, rfl⟩) fun st s4 ⟨o, H4, I4, ps, eo, e4⟩ => ?_
  subst eo e4
  have I5 : Inv X pins σ H4 { s4 with heap := s4.heap.push { cls := .type "slice", data := .fields #[.none, .none, st] } } := I4.kept (t' := s4.toks) fun _ _ z => Heap.get?_push_of_some _ z
  obtain ⟨its, r, ht, hz⟩ := I5.tuple hx
  have hlen := r.length
  show wpAny (model X.prog X.w) X.A (subscriptTail e (.Slice none none (some (.UnaryOp .USub (.Constant (.int 1) k p1) p2)) p3) (.ref a) (.ref s4.heap.objs.size)) (EP X pins σ Q) X.xe _
  refine tail_any (ops := [.ref a, .ref s4.heap.objs.size]) ht.typeIs PyProof.Rows.slot_tuple_getitem.lookup ?t (by with_unfolding_all rfl)
  refine getItem_back ht (Heap.IsSliceOf.new _ .none .none st) ps ?u (by rw [List.size_toArray]; omega)
  refine ⟨.ref _, _, I5.laid (t' := s4.toks) (o := .tup xs.reverse) (fun _ _ z => Heap.get?_push_of_some _ z) (Nat.le_refl _) ?_, rfl, q _ (I5.hok.fresh (Nat.le_refl _))⟩
  exact ⟨by rw [List.length_reverse]; exact hz, _, r.reverse, IsTup.new _ _⟩
variable {S : Type} [MSt S] {K : PySem.W.Frag}
omit [MSt S] in
def dBackT (dq : DQt S) : DEt S := fun ε n P => dq ε n fun k ds n1 => k = true ∧ P (.tuple ds.reverse) n1
theorem de_backT {a : Expr} {ta : TE} {dq : DQt S} {k : Nat} {p1 p2 p3 pos : Pos} (ha : DQ K X a ta dq) (hK : X.K = K := by rfl) : DE K X (.Subscript a (.Slice none none (some (.UnaryOp .USub (.Constant (.int 1) k p1) p2)) p3) pos) (tBackT K ta) (dBackT dq) := by
  subst hK
  exact ⟨pe_backT ha.pe, fun bo G0 H0 σ H G ε n P Q R hp k => ha.se bo G0 H0 σ H G ε n _ _ R hp fun b vs G1 H1 kk ds n1 g1 b1 _ sq hd h1 => by
    obtain ⟨rfl, h1⟩ := h1
    exact ⟨b, vs, rfl, sqt_mono g1.gh sq, fun p hp => k (.ref p) (upd G1 p (.tup vs.reverse)) _ (.tuple ds.reverse) n1 (g1.trans b1 (Grow.into g1.gh hp)) (b1.grow (Grow.into (G := G1) g1.gh hp)) (.tup (.inl (.inl upd_same)) (dpa_mono (same_new (g1.gh.free hp)) (dpa_rev hd))) h1⟩⟩
/-! ### range(a, b) -/
def rgD2 (i j : Int) : List PyData := (List.range (j - i).toNat).map fun (k : Nat) => PyData.int (i + (k : Int))
omit [MSt S] in
def dRng2 (da db : DEt S) : DIt S := fun ε n P => da ε n fun x n1 => db ε n1 fun y n2 => match x, y with
  | .int i, .int j => -1000000 ≤ i ∧ i ≤ 1000000 ∧ -1000000 ≤ j ∧ j ≤ 1000000 ∧ P (rgD2 i j) n2
  | _, _ => False
theorem rgD2_get {i j : Int} {k : Nat} {x : PyData} (h : (rgD2 i j)[k]? = some x) : k < (j - i).toNat ∧ x = .int (i + (k : Int)) := by
  unfold rgD2 at h
  rw [List.getElem?_map] at h
  by_cases hk : k < (j - i).toNat
  · rw [List.getElem?_range hk] at h
    exact ⟨hk, (Option.some.inj h).symm⟩
  · rw [List.getElem?_eq_none (by simpa using hk)] at h
    cases h
theorem rgD2_length (i j : Int) : (rgD2 i j).length = (j - i).toNat := by
  unfold rgD2
  rw [List.length_map, List.length_range]
theorem di_range2 {tg a b : Expr} {ta tb : TE} {da db : DEt S} {p pos : Pos} (hg : Gl X "range") (hm : X.mg "range" = none) (ha : DE K X a ta da) (hb : DE K X b tb db) (hs : starEach [a, b] X.env = [(false, eval a X.env), (false, eval b X.env)] := by rfl) (hs2 : starEach [b] X.env = [(false, eval b X.env)] := by rfl)
    (h1 : starEach (a :: [b]) X.env = (false, eval a X.env) :: starEach [b] X.env := by rfl) (h2 : starEach (b :: []) X.env = (false, eval b X.env) :: starEach [] X.env := by rfl) (hK : X.K = K := by rfl) : DI K X tg (.Call (.Name "range" p) [a, b] [] pos) (iRng2 (tCons ta (tCons tb tNil))) (dRng2 da db) := by
  subst hK
  exact ⟨pi_range2 hg hm (pa_cons ha.pe (pa_cons hb.pe pa_nil h2) h1) hs hs2, fun bo G0 H0 σ H G ε n P R r hp k =>
    ha.se bo G0 H0 σ H G ε n _ _ r hp fun v G1 H1 d n1 g1 b1 p1 h1 => hb.se bo G0 H0 σ H1 G1 ε n1 _ _ (r.grow g1 b1) h1 fun v2 G2 H2 d2 n2 g2 b2 p2 h2 => by
      cases p1 with
      | int i =>
        cases p2 with
        | int j =>
          obtain ⟨q1, q2, q3, q4, h2⟩ := h2
          refine ⟨i, j, rfl, ⟨by omega, by omega, by omega, by omega⟩, k _ G2 H2 _ n2 (g1.trans b1 g2) b2 (fun c G3 H3 s1 s2 => ⟨fun d hd => ?_, fun hl => ?_⟩) h2⟩
          · obtain ⟨hc, rfl⟩ := rgD2_get hd
            refine ⟨hc, fun y H' hy => ?_⟩
            obtain ⟨rfl, rfl⟩ := hy
            exact ⟨G3, Grow.refl s2, .int _⟩
          · rw [rgD2_length] at hl
            exact hl
        | _ => exact h2.elim
      | _ => exact h2.elim⟩
end
/-! ### by name: how the values are bound -/
theorem Fun.kbn {K : PySem.W.Frag} {x qual : Str} {st : Stmt} {f : Addr} {fd : FuncData} {ps : List Str} (F : Fun K x qual st f fd) (n : Nat) (ks : List Str) (g : {α : Type} → List α → List α → List α) (hrel : ∀ {vs : List V} {us : List Value} {zs : List V} {ws : List Value}, Vals vs us → Vals zs ws → Vals (g vs zs) (g us ws))
    (h : ∀ (kV doc pm : Value) (an : Option Addr) (cdv ct : Value) (us ws : List Value), us.length = n → ws.length = ks.length → bindArgs (PySem.W.fnOf x qual (defArgs st) (defBody st) (defScope st) .none kV doc pm an cdv ct) ⟨us, ks.zip ws⟩ = pure (ps.zip (g us ws))) : KBn K fd ps n ks (fun us ws => g us ws) (fun vs zs => g vs zs) := by
  obtain ⟨oc, od, kV, doc, pm, an, cdv, ct, osl, rfl, _⟩ := F.ex
  exact ⟨fun s us ws _ l1 l2 => .of_eq (h kV doc pm an cdv ct us ws l1 l2), fun r1 r2 => hrel r1 r2⟩
theorem vals_app {vs : List V} {us : List Value} {zs : List V} {ws : List Value} (h : Vals vs us) (h' : Vals zs ws) : Vals (vs ++ zs) (us ++ ws) := h.append h'
theorem toD_dats (ds : List PyData) : Own.toD (.lst (ds.map .dat)) = some (.list ds) := by
  rw [Own.toD, Own.toDs_dat]
  rfl
end DL

set_option Elab.async false
set_option linter.all false
set_option autoImplicit false
set_option maxRecDepth 100000
namespace DL
open PySem PySem.Spec PyProof.Rows L2
/-! ### dicts whose keys are tuples of ints and such tuples -/
section
variable {X : Cx} {pins : List (Addr × Obj)} {σ : L2.St} {H : Hp} {s : Shared}
mutual
theorem nested_of (I : Inv X pins σ H s) : ∀ {v : V} {u : Value} {d : PyData}, Dp X.K H v d → keyD d = true → RelV v u → NestedIs s.heap (nkT d) u
  | _, u, _, .non, _, r => by
    cases (show u = Value.none from r)
    exact .none
  | _, _, _, .bl _, h, _ => by cases h
  | _, _, _, .str _, h, _ => by cases h
  | _, _, _, .lst _ _, h, _ => by cases h
  | _, u, _, .int i, _, r => by
    obtain ⟨t, rfl⟩ := r
    exact .int i t
  | _, u, _, .tup (ds := ds) sq ha, h, r => by
    obtain ⟨its, rv, ⟨o, ho, hc, n, hd⟩, _⟩ := I.tuple sq
    cases r
    simp only [nkT]
    exact .tup ho hc hd (by simpa using nested_all I ha h rv)
theorem nested_all (I : Inv X pins σ H s) : ∀ {vs : List V} {us : List Value} {ds : List PyData}, DpAll X.K H vs ds → keyDs ds = true → Vals vs us → NestedAll s.heap (nkTs ds) us
  | _, _, _, .nil, _, .nil => .nil
  | _, _, _, .cons a t, h, .cons r rs => by
    rw [keyDs, Bool.and_eq_true] at h
    exact .cons (nested_of I a h.1 r) (nested_all I t h.2 rs)
end
theorem key_is (I : Inv X pins σ H s) {a : Addr} {d : PyData} (h : Dp X.K H (.ref a) d) (k : keyOk d) : (nestedKind X.prog X.w).is s.heap (nkT d) a := ⟨nested_of I h k.1 rfl, k.2.1⟩
/-- the entries, as the library tells them -/
def ents (xs : List (PyData × Addr × V)) (us : List Value) : List (NestedKey × Addr × Value) := (xs.zip us).map fun x => (nkT x.1.1, x.1.2.1, x.2)
theorem ents_keys : ∀ {xs : List (PyData × Addr × V)} {us : List Value}, xs.length = us.length → (ents xs us).map (·.1) = xs.map fun x => nkT x.1
  | [], [], _ => rfl
  | x :: xs, u :: us, h => by
    show nkT x.1 :: (ents xs us).map (·.1) = nkT x.1 :: xs.map _
    rw [ents_keys (by simpa using h)]
  | [], _ :: _, h => by cases h
  | _ :: _, [], h => by cases h
theorem nodup_nk : ∀ {xs : List (PyData × Addr × V)}, (∀ x ∈ xs, keyOk x.1) → (xs.map (·.1)).Nodup → (xs.map fun x => nkT x.1).Nodup
  | [], _, _ => List.nodup_nil
  | x :: xs, h, hn => by
    rw [List.map_cons, List.nodup_cons] at hn ⊢
    refine ⟨fun z => ?_, nodup_nk (fun y hy => h y (List.mem_cons_of_mem _ hy)) hn.2⟩
    obtain ⟨y, hy, e⟩ := List.mem_map.mp z
    refine hn.1 (List.mem_map.mpr ⟨y, hy, ?_⟩)
    exact nkT_inj (h y (List.mem_cons_of_mem _ hy)).1 (h x List.mem_cons_self).1 e
/-- what is known of such a dict and its keys -/
def DKeys (K : PySem.W.Frag) (H : Hp) (xs : List (PyData × Addr × V)) : Prop := ∀ x ∈ xs, Dp K H (.ref x.2.1) x.1
theorem dict_of (I : Inv X pins σ H s) {d : Addr} {xs : List (PyData × Addr × V)} (hd : H d = some (dN d xs)) (hk : DKeys X.K H xs) : (d == sysModules) = false ∧ xs.length ≤ sizeLine ∧ (xs.map (·.1)).Nodup ∧ (∀ x ∈ xs, keyOk x.1) ∧ ∃ us, Vals (xs.map fun x => x.2.2) us ∧ s.heap.DictOfH (nestedKind X.prog X.w) d (ents xs us) := by
  obtain ⟨⟨q1, q2, q3, q4, o, es, ep, us, q5, q6, q7, q8, q9⟩, _, _⟩ := I.hok d _ hd
  refine ⟨q1, q2, q3, q4, us, q8, o, es, ep, q5, q6, q7, ?_, fun y hy => ?_, ?_⟩
  · rw [q9 X.w]
    unfold ents
    rw [List.map_map]
    rfl
  · obtain ⟨x, hx, rfl⟩ := List.mem_map.mp hy
    have hx1 := (List.of_mem_zip hx).1
    exact key_is I (hk x.1 hx1) (q4 x.1 hx1)
  · have hl : xs.length = us.length := by
      have := q8.length
      rwa [List.length_map] at this
    rw [ents_keys hl]
    exact nodup_nk q4 q3
/-- the value at a key -/
def valN (xs : List (PyData × Addr × V)) (d : PyData) : Option V := match xs.find? fun x => decide (nkT x.1 = nkT d) with
  | some x => some x.2.2
  | none => none
theorem atKey_ents {d : PyData} : ∀ {xs : List (PyData × Addr × V)} {us : List Value}, Vals (xs.map fun x => x.2.2) us → (valN xs d = none → atKey (ents xs us) (nkT d) = none) ∧ ∀ v, valN xs d = some v → ∃ p, atKey (ents xs us) (nkT d) = some p ∧ RelV v p.2
  | [], [], .nil => ⟨fun _ => rfl, fun v h => by cases h⟩
  | x :: xs, u :: us, .cons r t => by
    have ih := atKey_ents (d := d) (xs := xs) (us := us) t
    have e0 : ents (x :: xs) (u :: us) = (nkT x.1, x.2.1, u) :: ents xs us := rfl
    by_cases e : nkT x.1 = nkT d
    · have e1 : valN (x :: xs) d = some x.2.2 := by
        unfold valN
        rw [List.find?_cons_of_pos (by simpa using e)]
      refine ⟨(fun z => by rw [e1] at z; cases z), fun v z => ?_⟩
      rw [e1] at z
      cases z
      exact ⟨(x.2.1, u), by rw [e0]; simp [atKey, e], r⟩
    · have e1 : valN (x :: xs) d = valN xs d := by
        unfold valN
        rw [List.find?_cons_of_neg (by simpa using e)]
      rw [e1]
      have e2 : atKey (ents (x :: xs) (u :: us)) (nkT d) = atKey (ents xs us) (nkT d) := by
        rw [e0]
        simp [atKey, e]
      rw [e2]
      exact ih
def rInN (K : PySem.W.Frag) (neg : Bool) : R2 := fun x y H Q => ∃ a d kd xs, x = .ref a ∧ y = .ref d ∧ Dp K H (.ref a) kd ∧ keyOk kd ∧ H d = some (dN d xs) ∧ DKeys K H xs ∧ Q (.bl (if neg then !(valN xs kd).isSome else (valN xs kd).isSome)) H
theorem isSome_ents {d : PyData} {xs : List (PyData × Addr × V)} {us : List Value} (r : Vals (xs.map fun x => x.2.2) us) : (atKey (ents xs us) (nkT d)).isSome = (valN xs d).isSome := by
  have h := atKey_ents (d := d) r
  cases e : valN xs d with
  | none => rw [h.1 e]; rfl
  | some v =>
    obtain ⟨p, q, _⟩ := h.2 v e
    rw [q]
    rfl
theorem op_inN (hu : X.A.units + 64 < cLine) : OpR X (compareOp .In) (rInN X.K false) := by
  intro pins s σ H x y v u Q I rx ry h
  obtain ⟨a, d, kd, xs, rfl, rfl, hk, ok, hd, hks, q⟩ := h
  cases rx
  cases ry
  obtain ⟨q1, q2, q3, q4, us, q5, q6⟩ := dict_of I hd hks
  refine wpAny_in_heap (by show X.A.in1.units + 8 < cLine; show X.A.units + 1 + 8 < cLine; omega) (key_is I hk ok) q1 q6 ?_
  rw [isSome_ents q5]
  exact ⟨.bl _, H, I.tok _, rfl, q⟩
theorem op_notInN (hu : X.A.units + 64 < cLine) : OpR X (compareOp .NotIn) (rInN X.K true) := by
  intro pins s σ H x y v u Q I rx ry h
  obtain ⟨a, d, kd, xs, rfl, rfl, hk, ok, hd, hks, q⟩ := h
  cases rx
  cases ry
  obtain ⟨q1, q2, q3, q4, us, q5, q6⟩ := dict_of I hd hks
  refine notIn_keyed (kvs := pairsH (ents xs us)) (by show X.A.in1.units + 8 < cLine; show X.A.units + 1 + 8 < cLine; omega) (key_is I hk ok) q1 ⟨_, q6, rfl⟩ ?_
  rw [valueAt_pairsH, Option.isSome_map, isSome_ents q5]
  exact ⟨.bl _, H, I.tok _, rfl, q⟩
def rIxN (K : PySem.W.Frag) : R2 := fun x y H Q => ∃ a d kd xs w, x = .ref d ∧ y = .ref a ∧ Dp K H (.ref a) kd ∧ keyOk kd ∧ H d = some (dN d xs) ∧ DKeys K H xs ∧ valN xs kd = some w ∧ Q w H
theorem ix_N (hu : X.A.units + 64 < cLine) : IxR X (rIxN X.K) := by
  intro value slice pins s σ H x y v u Q I rx ry h hsub
  obtain ⟨a, d, kd, xs, w, rfl, rfl, hk, ok, hd, hks, hv, q⟩ := h
  cases rx
  cases ry
  obtain ⟨q1, q2, q3, q4, us, q5, q6⟩ := dict_of I hd hks
  obtain ⟨p, hp, rw⟩ := (atKey_ents q5).2 w hv
  refine tail_any (ops := [.ref d, .ref a]) q6.typeIs PySem.slot_dict_getitem.lookup ?_ hsub
  exact wpAny_getItem_heap (by show X.A.in1.units + 8 < cLine; show X.A.units + 1 + 8 < cLine; omega) (key_is I hk ok) q6 hp ⟨w, H, I.tok _, rw, q⟩
/-- a value stored at a key -/
def storeN (xs : List (PyData × Addr × V)) (kd : PyData) (a : Addr) (v : V) : List (PyData × Addr × V) := if (valN xs kd).isSome then xs.map (fun x => if nkT x.1 = nkT kd then (x.1, x.2.1, v) else x) else xs ++ [(kd, a, v)]
theorem ents_app {kd : PyData} {a : Addr} {v : V} {u : Value} : ∀ {xs : List (PyData × Addr × V)} {us : List Value}, xs.length = us.length → ents (xs ++ [(kd, a, v)]) (us ++ [u]) = ents xs us ++ [(nkT kd, a, u)]
  | [], [], _ => rfl
  | x :: xs, w :: us, h => by
    show (nkT x.1, x.2.1, w) :: ents (xs ++ _) (us ++ _) = (nkT x.1, x.2.1, w) :: (ents xs us ++ _)
    rw [ents_app (by simpa using h)]
  | [], _ :: _, h => by cases h
  | _ :: _, [], h => by cases h
theorem ents_put {kd : PyData} {v : V} {u : Value} (ru : RelV v u) : ∀ {xs : List (PyData × Addr × V)} {us : List Value}, Vals (xs.map fun x => x.2.2) us → ∃ us', Vals ((xs.map fun x => if nkT x.1 = nkT kd then (x.1, x.2.1, v) else x).map fun x => x.2.2) us' ∧ (ents xs us).map (putAt (nkT kd) u) = ents (xs.map fun x => if nkT x.1 = nkT kd then (x.1, x.2.1, v) else x) us'
  | [], [], .nil => ⟨[], .nil, rfl⟩
  | x :: xs, w :: us, .cons r t => by
    obtain ⟨us', h1, h2⟩ := ents_put ru (kd := kd) (xs := xs) (us := us) t
    by_cases e : nkT x.1 = nkT kd
    · refine ⟨u :: us', ?_, ?_⟩
      · simp only [List.map_cons, if_pos e]
        exact .cons ru h1
      · show putAt (nkT kd) u (nkT x.1, x.2.1, w) :: (ents xs us).map (putAt (nkT kd) u) = _
        rw [h2]
        simp only [List.map_cons, if_pos e, putAt]
        rfl
    · refine ⟨w :: us', ?_, ?_⟩
      · simp only [List.map_cons, if_neg e]
        exact .cons r h1
      · show putAt (nkT kd) u (nkT x.1, x.2.1, w) :: (ents xs us).map (putAt (nkT kd) u) = _
        rw [h2]
        simp only [List.map_cons, if_neg e, putAt]
        rfl
theorem valN_none {xs : List (PyData × Addr × V)} {kd : PyData} (h : valN xs kd = none) : ∀ x ∈ xs, nkT x.1 ≠ nkT kd := fun x hx e => by
  unfold valN at h
  cases q : xs.find? fun x => decide (nkT x.1 = nkT kd) with
  | none =>
    have := List.find?_eq_none.mp q x hx
    simp [e] at this
  | some y =>
    rw [q] at h
    cases h
theorem storeN_keys {xs : List (PyData × Addr × V)} {kd : PyData} {a : Addr} {v : V} (hn : (xs.map (·.1)).Nodup) (hk : ∀ x ∈ xs, keyOk x.1) (ok : keyOk kd) : ((storeN xs kd a v).map (·.1)).Nodup ∧ ∀ x ∈ storeN xs kd a v, keyOk x.1 := by
  unfold storeN
  cases e : valN xs kd with
  | some w =>
    simp only [Option.isSome_some, if_true]
    have e1 : (xs.map fun x => if nkT x.1 = nkT kd then (x.1, x.2.1, v) else x).map (·.1) = xs.map (·.1) := by
      rw [List.map_map]
      refine List.map_congr_left fun x _ => ?_
      simp only [Function.comp]
      split <;> rfl
    refine ⟨by rw [e1]; exact hn, fun y hy => ?_⟩
    obtain ⟨x, hx, rfl⟩ := List.mem_map.mp hy
    split
    · exact hk x hx
    · exact hk x hx
  | none =>
    simp only [Option.isSome_none, Bool.false_eq_true, if_false]
    have hne := valN_none e
    refine ⟨?_, fun y hy => ?_⟩
    · rw [List.map_append, List.map_cons, List.map_nil]
      refine List.nodup_append.mpr ⟨hn, List.nodup_cons.mpr ⟨List.not_mem_nil, List.nodup_nil⟩, fun x hx y hy z => ?_⟩
      obtain ⟨x', hx', rfl⟩ := List.mem_map.mp hx
      rw [List.mem_singleton] at hy
      exact hne x' hx' (by rw [z, hy])
    · rcases List.mem_append.mp hy with q | q
      · exact hk y q
      · rw [List.mem_singleton.mp q]
        exact ok
theorem storeN_len {xs : List (PyData × Addr × V)} {kd : PyData} {a : Addr} {v : V} : (storeN xs kd a v).length ≤ xs.length + 1 := by
  unfold storeN
  split
  · rw [List.length_map]
    omega
  · rw [List.length_append]
    exact Nat.le_refl _
/-- what stands behind a store -/
theorem dN_stored (I : Inv X pins σ H s) {a d : Addr} {kd : PyData} {xs : List (PyData × Addr × V)} {v : V} {u : Value} {h' : Heap} {tk : Nat} {us : List Value} (hd : H d = some (dN d xs)) (ok : keyOk kd) (rv : RelV v u)
    (q1 : (d == sysModules) = false) (q3 : (xs.map (·.1)).Nodup) (q4 : ∀ x ∈ xs, keyOk x.1) (q5 : Vals (xs.map fun x => x.2.2) us) (hz : xs.length < sizeLine)
    (hm : h'.DictOfH (nestedKind X.prog X.w) d (storedH (ents xs us) (nkT kd) a u)) (hs : Heap.SameBut d s.heap h') : Inv X pins σ (upd H d (dN d (storeN xs kd a v))) { s with heap := h', toks := tk } := by
  have hl : xs.length = us.length := by
    have := q5.length
    rwa [List.length_map] at this
  obtain ⟨us', r1, r2⟩ : ∃ us', Vals ((storeN xs kd a v).map fun x => x.2.2) us' ∧ storedH (ents xs us) (nkT kd) a u = ents (storeN xs kd a v) us' := by
    unfold storeN
    have hsome := isSome_ents (d := kd) q5
    cases e : valN xs kd with
    | some w =>
      simp only [Option.isSome_some, if_true]
      obtain ⟨us', h1, h2⟩ := ents_put rv (kd := kd) q5
      refine ⟨us', h1, ?_⟩
      unfold storedH
      rw [hsome, e]
      exact h2
    | none =>
      simp only [Option.isSome_none, Bool.false_eq_true, if_false]
      refine ⟨us ++ [u], ?_, ?_⟩
      · rw [List.map_append]
        exact q5.append (.cons rv .nil)
      · unfold storedH
        rw [hsome, e]
        exact (ents_app hl).symm
  obtain ⟨n1, n2⟩ := storeN_keys (a := a) (v := v) q3 q4 ok
  rw [r2] at hm
  obtain ⟨o, es, ep, p1, p2, p3, p4, p5, p6⟩ := hm
  have mu : Mut (H d) := by
    rw [hd]
    trivial
  refine I.write (t' := tk) mu (.inl rfl) (fun b z hb e => (hs.2 b hb).trans e) ⟨o, p1⟩ ?_
  refine ⟨⟨q1, Nat.le_trans storeN_len hz, n1, n2, o, es, ep, us', p1, p2, p3, r1, fun w => ?_⟩, ⟨o, p1⟩, fun h1 h2 z e => ?_⟩
  · rw [p4]
    unfold ents
    rw [List.map_map]
    refine List.map_congr_left fun x hx => ?_
    have hx1 := (List.of_mem_zip hx).1
    show (⟨(nkT x.1.1).hash X.w, _, _⟩ : DictEntry) = ⟨(nkT x.1.1).hash w, _, _⟩
    rw [hash_any X.w w (n2 x.1 hx1).1]
  · obtain ⟨z1, z2, z3, z4, o', es', ep', us'', z5, z6⟩ := z
    exact ⟨z1, z2, z3, z4, o', es', ep', us'', e o' z5, z6⟩
def rSetN (K : PySem.W.Frag) : V → V → V → Hp → (Hp → Prop) → Prop := fun o i v H Q => ∃ a d kd xs, o = .ref d ∧ i = .ref a ∧ Dp K H (.ref a) kd ∧ keyOk kd ∧ H d = some (dN d xs) ∧ DKeys K H xs ∧ xs.length < sizeLine ∧ Q (upd H d (dN d (storeN xs kd a v)))
theorem set_N (hu : X.A.units + 64 < cLine) : PSet X (rSetN X.K) := by
  intro pins s σ H o i v ov iv u Q I ro ri rv h
  obtain ⟨a, d, kd, xs, rfl, rfl, hk, ok, hd, hks, hz, q⟩ := h
  cases ro
  cases ri
  obtain ⟨q1, q2, q3, q4, us, q5, q6⟩ := dict_of I hd hks
  have hl : (ents xs us).length = xs.length := by
    have := q5.length
    rw [List.length_map] at this
    unfold ents
    rw [List.length_map, List.length_zip]
    omega
  refine wpAny_setItem_heap (by show X.A.in1.units + 8 < cLine; show X.A.units + 1 + 8 < cLine; omega) (key_is I hk ok) q6 (fun h' hm hs => ?_) (by rw [hl]; omega)
  exact ⟨_, dN_stored I hd ok rv q1 q3 q4 q5 hz hm hs, q⟩
/-- {} -/
def tNewN : TE := fun _ H Q => ∀ p, H p = none → Q (.ref p) (upd H p (dN p []))
theorem pe_newN {pos : Pos} : PE X (.Dict [] [] pos) tNewN := by
  refine ⟨fun pins s σ H Q I h => wpAny_Dict_empty ⟨.ref s.heap.objs.size, _, I.laid (a := s.heap.objs.size) (o := dN s.heap.objs.size []) (t' := s.toks) (fun _ _ z => Heap.get?_push_of_some _ z) (Nat.le_refl _) ?_, rfl, h _ (I.hok.fresh (Nat.le_refl _))⟩⟩
  refine ⟨⟨?_, Nat.zero_le _, List.nodup_nil, (fun x hx => by cases hx), _, _, _, [], Heap.get?_push_size _ rfl, ⟨rfl, rfl, rfl⟩, rfl, .nil, fun _ => rfl⟩, ⟨_, Heap.get?_push_size _ rfl⟩, fun h1 h2 z e => ?_⟩
  · exact beq_eq_false_iff_ne.mpr (Ne.symm (Nat.ne_of_lt I.big))
  · obtain ⟨z1, z2, z3, z4, o', es', ep', us'', z5, z6⟩ := z
    exact ⟨z1, z2, z3, z4, o', es', ep', us'', e o' z5, z6⟩
/-- d.setdefault(k, x) -/
def rDefN (K : PySem.W.Frag) : V → List V → Hp → VK → Prop := fun x vs H Q => ∃ a d kd xs v, x = .ref d ∧ vs = [.ref a, v] ∧ Dp K H (.ref a) kd ∧ keyOk kd ∧ H d = some (dN d xs) ∧ DKeys K H xs ∧ xs.length < sizeLine ∧
  match valN xs kd with
  | some w => Q w H
  | none => Q v (upd H d (dN d (storeN xs kd a v)))
theorem mt_defN (hu : X.A.units + 64 < cLine) : MtR X "dict.setdefault" (rDefN X.K) := by
  intro pins s σ H x vs v us Q I rx rs h
  obtain ⟨a, d, kd, xs, y, rfl, rfl, hk, ok, hd, hks, hz, q⟩ := h
  cases rx
  obtain ⟨ua, uy, rfl, ra, ry⟩ := rs.two
  cases ra
  obtain ⟨q1, q2, q3, q4, ws, q5, q6⟩ := dict_of I hd hks
  have hl : (ents xs ws).length = xs.length := by
    have := q5.length
    rw [List.length_map] at this
    unfold ents
    rw [List.length_map, List.length_zip]
    omega
  refine call_setdefault_heap (by show X.A.in1.units + 8 < cLine; show X.A.units + 1 + 8 < cLine; omega) (key_is I hk ok) q1 q6 ?a ?b ?c
  case a =>
    intro p hp
    cases e : valN xs kd with
    | none =>
      rw [(atKey_ents q5).1 e] at hp
      cases hp
    | some w =>
      obtain ⟨p', hp', rw'⟩ := (atKey_ents q5).2 w e
      rw [hp'] at hp
      cases hp
      rw [e] at q
      exact ⟨w, H, I.tok _, rw', q⟩
  case b =>
    intro hn h' hm hs
    cases e : valN xs kd with
    | some w =>
      obtain ⟨p', hp', _⟩ := (atKey_ents q5).2 w e
      rw [hp'] at hn
      cases hn
    | none =>
      rw [e] at q
      exact ⟨y, _, dN_stored I hd ok ry q1 q3 q4 q5 hz hm hs, ry, q⟩
  case c => rw [hl]; omega
/-- len(d) -/
def rLenN (K : PySem.W.Frag) : List V → Hp → VK → Prop := fun vs H Q => ∃ d xs, vs = [.ref d] ∧ H d = some (dN d xs) ∧ DKeys K H xs ∧ Q (.int (xs.length : Int)) H
theorem call_lenN : CallR X (.builtin "len") (rLenN X.K) := by
  intro pins s σ H vs us Q I rs h
  obtain ⟨d, xs, rfl, hd, hks, q⟩ := h
  obtain ⟨u, rfl, r⟩ := rs.one
  cases r
  obtain ⟨q1, q2, q3, q4, ws, q5, q6⟩ := dict_of I hd hks
  have hl : (ents xs ws).length = xs.length := by
    have := q5.length
    rw [List.length_map] at this
    unfold ents
    rw [List.length_map, List.length_zip]
    omega
  refine PyProof.Rows.call_len_slot (n := (xs.length : Int)) q6.typeIs F.slot_dict_len (fun Q' hq => len_keyed (kvs := pairsH (ents xs ws)) q1 ⟨_, q6, rfl⟩ ?_) (by omega) (by rw [sizeLine_eq] at q2; omega) ?_
  · rw [pairsH_length, hl]
    exact hq
  · exact ⟨.int _, H, I.tok _, ⟨_, rfl⟩, q⟩
end
end DL

set_option Elab.async false
set_option linter.all false
set_option autoImplicit false
set_option maxRecDepth 100000
namespace DL
open PySem PySem.Spec PyProof.Rows L2
variable {S : Type} [MOw S]
section
variable {K : PySem.W.Frag} {G H : Hp}
theorem dkeys_of : ∀ {xs : List (PyData × Addr × V)}, DpAll K G (xs.map fun x => V.ref x.2.1) (xs.map (·.1)) → DKeys K G xs
  | [], _, x, hx => by cases hx
  | y :: ys, .cons h t, x, hx => by
    rcases List.mem_cons.mp hx with rfl | hx
    · exact h
    · exact dkeys_of t x hx
theorem dkeys_all : ∀ {xs : List (PyData × Addr × V)}, DKeys K G xs → DpAll K G (xs.map fun x => V.ref x.2.1) (xs.map (·.1))
  | [], _ => .nil
  | y :: ys, h => .cons (h y List.mem_cons_self) (dkeys_all fun x hx => h x (List.mem_cons_of_mem _ hx))
theorem dkeys_up {xs : List (PyData × Addr × V)} (s : Same G H) (h : DKeys K G xs) : DKeys K H xs := fun x hx => dp_mono s (h x hx)
/-- the value at a key, by data -/
def valO : List PyData → List Own → PyData → Option Own
  | d :: ds, o :: os, k => if nkT d = nkT k then some o else valO ds os k
  | _, _, _ => none
/-- a value stored -/
def putO : List PyData → List Own → PyData → Own → List Own
  | d :: ds, o :: os, k, o' => if nkT d = nkT k then o' :: os else o :: putO ds os k o'
  | _, _, _, o' => [o']
def putKs : List PyData → PyData → List PyData
  | d :: ds, k => if nkT d = nkT k then d :: ds else d :: putKs ds k
  | [], k => [k]
theorem valN_O {k : PyData} : ∀ {xs : List (PyData × Addr × V)} {os : List Own} {f : List Addr}, OwsR K G H (xs.map fun x => x.2.2) os f →
    (valN xs k = none ↔ valO (xs.map (·.1)) os k = none) ∧ ∀ v, valN xs k = some v → ∃ o g, valO (xs.map (·.1)) os k = some o ∧ OwR K G H v o g
  | [], _, _, .nil => ⟨⟨fun _ => rfl, fun _ => rfl⟩, fun v h => by cases h⟩
  | x :: xs, _, _, .cons (o := o) (os := os) r t _ => by
    have ih := valN_O (k := k) t
    by_cases e : nkT x.1 = nkT k
    · have e1 : valN (x :: xs) k = some x.2.2 := by
        unfold valN
        rw [List.find?_cons_of_pos (by simpa using e)]
      have e2 : valO ((x :: xs).map (·.1)) (o :: os) k = some o := by
        show (if nkT x.1 = nkT k then some o else _) = _
        rw [if_pos e]
      rw [e1, e2]
      exact ⟨⟨(fun z => nomatch z), fun z => nomatch z⟩, fun v z => by
        cases z
        exact ⟨o, _, rfl, r⟩⟩
    · have e1 : valN (x :: xs) k = valN xs k := by
        unfold valN
        rw [List.find?_cons_of_neg (by simpa using e)]
      have e2 : valO ((x :: xs).map (·.1)) (o :: os) k = valO (xs.map (·.1)) os k := by
        show (if nkT x.1 = nkT k then some o else _) = _
        rw [if_neg e]
      rw [e1, e2]
      exact ih
theorem valO_isSome {k : PyData} {xs : List (PyData × Addr × V)} {os : List Own} {f : List Addr} (h : OwsR K G H (xs.map fun x => x.2.2) os f) : (valN xs k).isSome = (valO (xs.map (·.1)) os k).isSome := by
  have q := valN_O (k := k) h
  cases e : valN xs k with
  | none => rw [q.1.mp e]; rfl
  | some v =>
    obtain ⟨o, _, z, _⟩ := q.2 v e
    rw [z]
    rfl
/-- a store of data -/
theorem store_ows {k : PyData} {a : Addr} {v : V} {d : PyData} (hv : Dp K G v d) : ∀ {xs : List (PyData × Addr × V)} {es : List PyData}, DpAll K G (xs.map fun x => x.2.2) es → (xs.map (·.1)).Nodup → (∀ x ∈ xs, keyOk x.1) → keyOk k →
    ∃ es', DpAll K G ((storeN xs k a v).map fun x => x.2.2) es' ∧ putO (xs.map (·.1)) (es.map .dat) k (.dat d) = es'.map .dat ∧ putKs (xs.map (·.1)) k = (storeN xs k a v).map (·.1)
  | [], _, .nil, _, _, _ => ⟨[d], .cons hv .nil, rfl, rfl⟩
  | x :: xs, _, .cons (d := e) (ds := es) r t, hn, hk, ok => by
    rw [List.map_cons, List.nodup_cons] at hn
    by_cases q : nkT x.1 = nkT k
    · have hno : ∀ y ∈ xs, nkT y.1 ≠ nkT k := fun y hy z => hn.1 (List.mem_map.mpr ⟨y, hy, nkT_inj (hk y (List.mem_cons_of_mem _ hy)).1 (hk x List.mem_cons_self).1 (z.trans q.symm)⟩)
      have e0 : (valN (x :: xs) k).isSome = true := by
        unfold valN
        rw [List.find?_cons_of_pos (by simpa using q)]
        rfl
      have e1 : storeN (x :: xs) k a v = (x.1, x.2.1, v) :: xs := by
        unfold storeN
        rw [if_pos e0, List.map_cons, if_pos q]
        refine congrArg _ ?_
        conv => rhs; rw [← List.map_id xs]
        exact List.map_congr_left fun y hy => by rw [if_neg (hno y hy)]; rfl
      refine ⟨d :: es, ?_, ?_, ?_⟩
      · rw [e1]
        exact .cons hv t
      · show (if nkT x.1 = nkT k then Own.dat d :: es.map Own.dat else _) = _
        rw [if_pos q]
        rfl
      · rw [e1]
        show (if nkT x.1 = nkT k then x.1 :: xs.map (·.1) else _) = _
        rw [if_pos q]
        rfl
    · obtain ⟨es', h1, h2, h3⟩ := store_ows hv (k := k) (a := a) t hn.2 (fun y hy => hk y (List.mem_cons_of_mem _ hy)) ok
      have e1 : storeN (x :: xs) k a v = x :: storeN xs k a v := by
        have e0 : valN (x :: xs) k = valN xs k := by
          unfold valN
          rw [List.find?_cons_of_neg (by simpa using q)]
        unfold storeN
        rw [e0]
        split
        · rw [List.map_cons, if_neg q]
        · rfl
      refine ⟨e :: es', ?_, ?_, ?_⟩
      · rw [e1]
        exact .cons r h1
      · show (if nkT x.1 = nkT k then _ else Own.dat e :: putO (xs.map (·.1)) (es.map Own.dat) k (.dat d)) = _
        rw [if_neg q, h2]
        rfl
      · rw [e1]
        show (if nkT x.1 = nkT k then _ else x.1 :: putKs (xs.map (·.1)) k) = _
        rw [if_neg q, h3]
        rfl
end
section
variable {K : PySem.W.Frag} {bo : Option Bo} {G0 H0 : Hp} {σ : L2.St} {H G : Hp} {ε : En} {n : S}
/-- a dict at a place, other entries in it -/
theorem Rl.placeDct (r : Rl K bo G0 H0 σ H G ε n) {pl : Plc} {ds : List PyData} {os : List Own} (h : plGet ε n pl = some (.dct ds os)) (hb : pl.root = none → ∃ b, bo = some b) :
    ∃ d xs f, PlV bo σ H pl (.ref d) ∧ (∀ H2, (∀ a u, H a = some u → H2 a = some u) → PlV bo σ H2 pl (.ref d)) ∧ H d = some (dN d xs) ∧ ds = xs.map (·.1) ∧ ((xs.map (·.1)).Nodup ∧ ∀ x ∈ xs, keyOk x.1) ∧ DKeys K G xs ∧ OwsR K G H (xs.map fun x => x.2.2) os f ∧ d ∉ f ∧
      ∀ xs2 os2 f2, OwsR K G H (xs2.map fun x => x.2.2) os2 f2 → DKeys K G xs2 → ((xs2.map (·.1)).Nodup ∧ ∀ x ∈ xs2, keyOk x.1) → (∀ a ∈ f2, a ∈ f) → Rl K bo G0 H0 σ (upd H d (dN d xs2)) G (plEnv ε n pl (.dct (xs2.map (·.1)) os2)) (plSt ε n pl (.dct (xs2.map (·.1)) os2)) := by
  obtain ⟨v1, f1, c1, c2, c3, c4, c5⟩ := r.place h hb
  cases c2 with
  | @dct d ks vs _ _ f q k t nf =>
    obtain ⟨xs, q1, rfl, rfl, rfl, qn, qk⟩ := q
    refine ⟨d, xs, f, c1, c4, q1, rfl, ⟨qn, fun x hx => qk x.1 (List.mem_map.mpr ⟨x, hx, rfl⟩)⟩, dkeys_of k, t, nf, fun xs2 os2 f2 r2 hk2 hn2 hs => ?_⟩
    have hnl : d ∉ f2 := fun z => nf (hs d z)
    refine c5 G _ (.dct (xs2.map (·.1)) os2) (d :: f2) (Same.refl G) (fun c u z => ?_) (fun _ _ z => z) (fun c u hc z => ?_) (fun c z => ?_) (.dct ⟨xs2, upd_same, rfl, rfl, rfl, hn2.1, fun y hy => by obtain ⟨x, hx, rfl⟩ := List.mem_map.mp hy; exact hn2.2 x hx⟩ (dkeys_all hk2) (r2.keep (Same.refl G) fun a ha u z => by rw [upd_ne (fun e => hnl (by rw [← e]; exact ha))]; exact z) hnl) fun a ha => ?_
    · rw [upd_ne (ne_of_none z (c3 d List.mem_cons_self))]
      exact r.gh c u z
    · rw [upd_ne (fun e => hc (by rw [e]; exact List.mem_cons_self))]
      exact z
    · by_cases e : c = d
      · rw [e, upd_same]
        exact fun z => nomatch z
      · rw [upd_ne e]
        exact z
    · rcases List.mem_cons.mp ha with rfl | ha
      · exact .inl List.mem_cons_self
      · exact .inl (List.mem_cons_of_mem _ (hs a ha))
end
end DL

set_option Elab.async false
set_option linter.all false
set_option autoImplicit false
set_option maxRecDepth 100000
namespace DL
open PySem PySem.Spec PyProof.Rows L2
variable {S : Type} [MOw S]
/-! ### values that are told while nothing changes -/
def SV (K : PySem.W.Frag) (te : TE) (de : DEt S) : Prop := ∀ (bo : Option Bo) (G0 H0 : Hp) (σ : L2.St) (H G : Hp) (ε : En) (n : S) (P : PyData → S → Prop) (Q : VK), Rl K bo G0 H0 σ H G ε n → de ε n P →
  (∀ v G' H' d, Grow none G H G' H' → Dp K G' v d → P d n → Q v H') → te σ H Q
structure DV (K : PySem.W.Frag) (X : Cx) (e : Expr) (te : TE) (de : DEt S) : Prop where
  pe : PE X e te
  se : SV K te de
section
variable {X : Cx} {K : PySem.W.Frag} {e a b : Expr} {te ta tb : TE} {de da dk : DEt S} {dp : DPt S} {p pos : Pos}
theorem dv_de (h : DV K X e te de) (hK : X.K = K := by rfl) : DE K X e te de := by
  subst hK
  exact ⟨h.pe, fun bo G0 H0 σ H G ε n P Q r q k => h.se bo G0 H0 σ H G ε n _ _ r q fun v G1 H1 d g1 pd h1 => k v G1 H1 d n g1.any (r.bx.grow g1) pd h1⟩
omit [MOw S] in
def dPure (de : DEt S) : DEt S := fun ε n P => de (ε.map imS) n fun d _ => P d n
theorem dv_pure (h : DE K X e te de) (hK : X.K = K := by rfl) : DV K X e te (dPure de) := by
  subst hK
  exact ⟨h.pe, fun bo G0 H0 σ H G ε n P Q r q k => h.se none _ _ σ H G _ n _ _ r.pure q fun v G1 H1 d n1 g1 _ pd h1 => k v G1 H1 d g1 pd h1⟩
theorem dv_leaf (ha : DP K X a ta dp) (hK : X.K = K := by rfl) : DV K X a ta (dLeaf dp) := by
  subst hK
  exact ⟨ha.pe, fun bo G0 H0 σ H G ε n P Q r q k => ha.se bo G0 H0 σ H G ε n _ _ r q fun v G1 H1 pl g1 pv hb h1 => by
    obtain ⟨d, hg, h1⟩ := h1
    obtain ⟨v1, f1, c1, c2, _⟩ := (r.after g1).place hg hb
    cases pv.inj c1
    cases c2 with
    | dat pd => exact k v G1 H1 d g1 pd h1⟩
theorem dv_len (hg : Gl X "len") (hm : X.mg "len" = none) (ha : DP K X a ta dp) (he : starEach (a :: []) X.env = (false, eval a X.env) :: starEach [] X.env := by rfl) (hpl : (backTo pos (starEach [] X.env)).any (·.1) = false := by rfl) (hK : X.K = K := by rfl) :
    DV K X (.Call (.Name "len" p) [a] [] pos) (tCB (fun xs H Q => ∃ p ys, xs = [.ref p] ∧ (SqL K H p ys ∨ SqT K H p ys) ∧ Q (.int ys.length) H) (tCons ta tNil)) (dLenP dp) := by
  subst hK
  exact ⟨pe_callB call_len_seq hg hm PySem.boot_len (pa_cons ha.pe pa_nil he) (by decide) (by decide) he hpl, fun bo G0 H0 σ H G ε n P Q r q k => ha.se bo G0 H0 σ H G ε n _ _ r q fun v G1 H1 pl g1 pv hb h1 => by
    obtain ⟨os, hg, h1⟩ := h1
    obtain ⟨b, vs, f, c1, _, c2, c3, c4, c5⟩ := (r.after g1).placeLst hg hb
    cases pv.inj c1
    exact ⟨b, vs, rfl, .inl (.inl (.inl c2)), k _ G1 H1 _ g1 (.int _) (by rw [c3.len]; exact h1)⟩⟩
omit [MOw S] in
theorem key_ref {G : Hp} {v : V} {kd : PyData} (h : Dp K G v kd) (ok : keyOk kd) : ∃ a, v = .ref a := by
  obtain ⟨_, _, ds, rfl⟩ := ok
  cases h with
  | tup _ _ => exact ⟨_, rfl⟩
/-- k in P, P a dict at a place -/
def dInP (neg : Bool) (dk : DEt S) (dp : DPt S) : DTt S := fun ε n P => dk ε n fun kd _ => dp ε n fun pl _ => ∃ ds os, plGet ε n pl = some (.dct ds os) ∧ keyOk kd ∧ P (if neg then !(valO ds os kd).isSome else (valO ds os kd).isSome) n
theorem st_inP (neg : Bool) (hk : SV K ta dk) (hp : SP K tb dp) : STt K (tTest (tOp (rInN K neg) ta tb)) (dInP neg dk dp) := fun bo G0 H0 σ H G ε n P Q r q k =>
  hk bo G0 H0 σ H G ε n _ _ r q fun v G1 H1 kd g1 pk h1 => hp bo G0 H0 σ H1 G1 ε n _ _ (r.after g1) h1 fun w G2 H2 pl g2 pv hb h2 => by
    obtain ⟨ds, os, hg, ok, h2⟩ := h2
    have r2 := (r.after g1).after g2
    obtain ⟨d, xs, f, c1, _, c2, rfl, _, c4, c5, _⟩ := r2.placeDct hg hb
    cases pv.inj c1
    obtain ⟨a, rfl⟩ := key_ref pk ok
    refine ⟨a, d, kd, xs, rfl, rfl, dp_mono (g2.gg.trans g2.gh) pk, ok, c2, dkeys_up g2.gh c4, _, rfl, k _ G2 H2 n (g1.trans (S := S) (n := n) (K := K) (bo := none) trivial g2).any (r2.bx) ?_⟩
    rw [valO_isSome c5]
    exact h2
theorem dt_inP (hu : X.A.units + 64 < cLine) (hk : DV K X a ta dk) (hp : DP K X b tb dp) (hm : behindInMarks .In b = false := by rfl) (hK : X.K = K := by rfl) : DT K X (.Compare a [.In] [b] pos) (tTest (tOp (rInN K false) ta tb)) (dInP false dk dp) := by
  subst hK
  exact ⟨pt_cmpR (op_inN hu) hk.pe hp.pe hm, st_inP false hk.se hp.se⟩
theorem dt_notInP (hu : X.A.units + 64 < cLine) (hk : DV K X a ta dk) (hp : DP K X b tb dp) (hm : behindInMarks .NotIn b = false := by rfl) (hK : X.K = K := by rfl) : DT K X (.Compare a [.NotIn] [b] pos) (tTest (tOp (rInN K true) ta tb)) (dInP true dk dp) := by
  subst hK
  exact ⟨pt_cmpR (op_notInN hu) hk.pe hp.pe hm, st_inP true hk.se hp.se⟩
/-- P[k] -/
def dGetP (dp : DPt S) (dk : DEt S) : DEt S := fun ε n P => dp ε n fun pl _ => dk ε n fun kd _ => ∃ ds os d, plGet ε n pl = some (.dct ds os) ∧ keyOk kd ∧ valO ds os kd = some (.dat d) ∧ P d n
theorem dv_get (hu : X.A.units + 64 < cLine) (hp : DP K X a ta dp) (hk : DV K X b tb dk) (hs : PlainIx b) (hK : X.K = K := by rfl) : DV K X (.Subscript a b pos) (tOp (rIxN K) ta tb) (dGetP dp dk) := by
  subst hK
  exact ⟨pe_ix (ix_N hu) hp.pe hk.pe hs, fun bo G0 H0 σ H G ε n P Q r q k => hp.se bo G0 H0 σ H G ε n _ _ r q fun w G1 H1 pl g1 pv hb h1 => hk.se bo G0 H0 σ H1 G1 ε n _ _ (r.after g1) h1 fun v G2 H2 kd g2 pk h2 => by
    obtain ⟨ds, os, d, hg, ok, hv, h2⟩ := h2
    have r1 := r.after g1
    have r2 := r1.after g2
    obtain ⟨d0, _, _, b1, b2, _⟩ := r1.placeDct hg hb
    obtain ⟨dd, xs, f, c1, _, c2, rfl, _, c4, c5, _⟩ := r2.placeDct hg hb
    cases pv.inj b1
    cases (b2 H2 fun c u z => g2.kp c u (fun z => z) z).inj c1
    obtain ⟨ka, rfl⟩ := key_ref pk ok
    have hq := valN_O (k := kd) c5
    cases e : valN xs kd with
    | none =>
      rw [hq.1.mp e] at hv
      cases hv
    | some w =>
      obtain ⟨o, g, z1, z2⟩ := hq.2 w e
      rw [hv] at z1
      cases z1
      cases z2 with
      | dat pd => exact ⟨ka, d0, kd, xs, w, rfl, rfl, dp_mono g2.gh pk, ok, c2, dkeys_up g2.gh c4, e, k w G2 H2 d (g1.trans (S := S) (n := n) (K := X.K) (bo := none) trivial g2) pd h2⟩⟩
/-- P[k] = e -/
def dPutP (dp : DPt S) (dk de : DEt S) : DSt S := fun D ε n => de ε n fun d _ => dp ε n fun pl _ => dk ε n fun kd _ => ∃ (ds es : List PyData), plGet ε n pl = some (.dct ds (es.map .dat)) ∧ ds.length < 100000 ∧ keyOk kd ∧
  D.nx (plEnv ε n pl (.dct (putKs ds kd) (putO ds (es.map .dat) kd (.dat d)))) (plSt ε n pl (.dct (putKs ds kd) (putO ds (es.map .dat) kd (.dat d))))
theorem ds_putP {pos2 : Pos} (hu : X.A.units + 64 < cLine) (hp : DP K X a ta dp) (hk : DV K X b tb dk) (he : DV K X e te de)
    (hs : swapsWithSole [.Subscript a b p] e pos2.line X.env = pure false := by rfl) (hw : swappedStores [.Subscript a b p] e X.env = pure none := by rfl) (h1 : (assignEach [.Subscript a b p] X.env).map (·.2) = [assign (.Subscript a b p) X.env] := by rfl)
    (ha : ∀ v, assign (.Subscript a b p) X.env v = (do
      let ov ← holding [v] (eval a X.env)
      let iv ← holding [v, ov] (eval b X.env)
      standAt p
      holding [v, ov, iv] (setItem ov iv v)
      release [v, ov, iv] []) := by intro _; rfl) (hK : X.K = K := by rfl) : DS K X (.Assign [.Subscript a b p] e pos2) (tAsg te (gSub ta tb (rSetN K))) (dPutP dp dk de) := by
  subst hK
  refine ⟨ps_asg he.pe (pg_sub hp.pe hk.pe (set_N hu) ha) hs hw h1, fun bo G0 H0 σ H G ε n D DD r l q => he.se bo G0 H0 σ H G ε n _ _ r q fun v G1 H1 d g1 pd h1 => hp.se bo G0 H0 σ H1 G1 ε n _ _ (r.after g1) h1 fun w G2 H2 pl g2 pv hb h2 =>
    hk.se bo G0 H0 σ H2 G2 ε n _ _ ((r.after g1).after g2) h2 fun kv G3 H3 kd g3 pk h3 => ?_⟩
  obtain ⟨ds, es, hg, hl, ok, h3⟩ := h3
  have r2 := (r.after g1).after g2
  have r3 := r2.after g3
  obtain ⟨d0, _, _, b1, b2, _⟩ := r2.placeDct hg hb
  obtain ⟨dd, xs, f, c1, _, c2, rfl, cn, c4, c5, c6, c7⟩ := r3.placeDct hg hb
  cases pv.inj b1
  cases (b2 H3 fun c u z => g3.kp c u (fun z => z) z).inj c1
  obtain ⟨ka, rfl⟩ := key_ref pk ok
  obtain ⟨c5', rfl⟩ := OwsR.undat c5
  refine ⟨ka, d0, kd, xs, rfl, rfl, dp_mono g3.gh pk, ok, c2, dkeys_up g3.gh c4, szl (by rw [List.length_map] at hl; exact hl), ?_⟩
  have pd3 := dp_mono (g2.gg.trans g3.gg) pd
  obtain ⟨es', q1, q2, q3⟩ := store_ows (a := ka) pd3 c5' cn.1 cn.2 ok
  rw [q2, q3] at h3
  refine l.nx _ _ G3 _ _ (c7 _ _ [] (OwsR.dat q1) (fun x hx => ?_) (storeN_keys cn.1 cn.2 ok) (fun _ z => nomatch z)) h3
  unfold storeN at hx
  split at hx
  · obtain ⟨y, hy, rfl⟩ := List.mem_map.mp hx
    split
    · exact c4 y hy
    · exact c4 y hy
  · rcases List.mem_append.mp hx with z | z
    · exact c4 x z
    · rw [List.mem_singleton.mp z]
      exact pk
end
end DL

set_option Elab.async false
set_option linter.all false
set_option autoImplicit false
set_option maxRecDepth 100000
namespace DL
open PySem PySem.Spec PyProof.Rows L2
variable {S : Type} [MOw S]
theorem lookup_zip {f : Str} {v : V} : ∀ {fs : List Str} {vs : List V} {j : Nat}, fs.Nodup → fs[j]? = some f → vs[j]? = some v → (fs.zip vs).lookup f = some v
  | [], _, _, _, e, _ => by simp at e
  | _ :: _, [], _, _, _, e => by simp at e
  | g :: fs, w :: vs, 0, _, e, e2 => by
    simp at e e2
    subst e e2
    simp [List.lookup]
  | g :: fs, w :: vs, j + 1, hn, e, e2 => by
    have hn := List.nodup_cons.mp hn
    have hne : f ≠ g := fun z => hn.1 (by rw [← z]; exact List.mem_of_getElem? (by simpa using e))
    have hb : (f == g) = false := beq_eq_false_iff_ne.mpr hne
    simp only [List.zip_cons_cons, List.lookup_cons, hb]
    exact lookup_zip hn.2 (by simpa using e) (by simpa using e2)
theorem lookup_zip_none {f : Str} : ∀ {fs : List Str} {vs : List V}, f ∉ fs → (fs.zip vs).lookup f = none
  | [], _, _ => by simp [List.lookup]
  | _ :: _, [], _ => by simp [List.lookup]
  | g :: fs, w :: vs, h => by
    have hne : f ≠ g := fun z => h (by rw [z]; exact List.mem_cons_self)
    have hb : (f == g) = false := beq_eq_false_iff_ne.mpr hne
    simp only [List.zip_cons_cons, List.lookup_cons, hb]
    exact lookup_zip_none fun z => h (List.mem_cons_of_mem _ z)
section
variable {X : Cx} {K : PySem.W.Frag} {e a : Expr} {te ta : TE} {de da dk : DEt S} {dp : DPt S} {p pos : Pos}
/-- P.f -/
def dpFld (C : Addr) (f : Str) (j : Nat) (dp : DPt S) : DPt S := fun ε n P => dp ε n fun pl _ => ∃ fs os, plGet ε n pl = some (.ins C fs os) ∧ fs.Nodup ∧ fs[j]? = some f ∧ j < os.length ∧ P ⟨pl.root, pl.path ++ [j]⟩ n
theorem dp_fld {C : Addr} {f : Str} (j : Nat) (c : Cls K C) (na : NoAttr K C f) (ha : DP K X a ta dp) (hb : attributeBase a f X.env (eval a X.env) = eval a X.env := by rfl) (hK : X.K = K := by rfl) : DP K X (.Attribute a f pos) (tFld K ta f) (dpFld C f j dp) := by
  subst hK
  exact ⟨pe_fld ha.pe hb, fun bo G0 H0 σ H G ε n P Q r q k => ha.se bo G0 H0 σ H G ε n _ _ r q fun v G1 H1 pl g1 pv hb h1 => by
    obtain ⟨fs, os, hg, hn, hj, hl, h1⟩ := h1
    obtain ⟨v1, f1, c1, c2, _, c4, _⟩ := (r.after g1).place hg hb
    cases pv.inj c1
    cases c2 with
    | @ins x _ dx _ vs _ fp q q' l1 l2 t nf nd =>
      have hjv : j < vs.length := by rw [t.len]; exact hl
      refine ⟨x, C, dx, _, vs[j], rfl, q, c, na, lookup_zip hn hj (List.getElem?_eq_getElem hjv), k _ G1 H1 ⟨pl.root, pl.path ++ [j]⟩ g1 (pv.ext ?_) hb h1⟩
      obtain ⟨nm, hz⟩ := zip_at l2 (List.getElem?_eq_getElem hjv)
      simp only [vAt, q, hz, Option.bind_some]⟩
end
/-! ### things that stand still -/
def SR (K : PySem.W.Frag) (te : TE) (dr : DNt S) : Prop := ∀ (bo : Option Bo) (G0 H0 : Hp) (σ : L2.St) (H G : Hp) (ε : En) (n : S) (P : Own → S → Prop) (Q : VK), Rl K bo G0 H0 σ H G ε n → dr ε n P →
  (∀ v G' H' o f, Grow none G H G' H' → OwR K G' G' v o f → P o n → Q v H') → te σ H Q
structure DR (K : PySem.W.Frag) (X : Cx) (e : Expr) (te : TE) (dr : DNt S) : Prop where
  pe : PE X e te
  se : SR K te dr
mutual
theorem OwR.toDp {K : PySem.W.Frag} {G : Hp} : ∀ {v : V} {o : Own} {f : List Addr} {d : PyData}, OwR K G G v o f → o.toD = some d → Dp K G v d
  | _, _, _, d, .dat h, e => by
    cases e
    exact h
  | _, .lst os, _, d, .lst q t _, e => by
    rw [Own.toD, Option.map_eq_some_iff] at e
    obtain ⟨ds, e1, rfl⟩ := e
    exact .lst q (OwsR.toDp t e1)
  | _, .tup os, _, d, .tup q t _, e => by
    rw [Own.toD, Option.map_eq_some_iff] at e
    obtain ⟨ds, e1, rfl⟩ := e
    exact .tup (.inl (.inl q)) (OwsR.toDp t e1)
  | _, .dct _ _, _, d, _, e => by cases e
  | _, .ins _ _ _, _, d, _, e => by cases e
  | _, .dki _ _, _, d, _, e => by cases e
  | _, .dkt _ _, _, d, _, e => by cases e
  | _, .dkl _ _, _, d, _, e => by cases e
  | _, .dtl _ _, _, d, _, e => by cases e
theorem OwsR.toDp {K : PySem.W.Frag} {G : Hp} : ∀ {v : List V} {o : List Own} {f : List Addr} {d : List PyData}, OwsR K G G v o f → Own.toDs o = some d → DpAll K G v d
  | _, _, _, d, .nil, e => by
    cases e
    exact .nil
  | _, _, _, d, .cons (o := o) (os := os) r t _, e => by
    rw [Own.toDs] at e
    cases e1 : Own.toD o with
    | none =>
      rw [e1] at e
      cases e
    | some x =>
      cases e2 : Own.toDs os with
      | none =>
        rw [e1, e2] at e
        cases e
      | some xs =>
        rw [e1, e2] at e
        cases e
        exact .cons (OwR.toDp r e1) (OwsR.toDp t e2)
end
section
variable {X : Cx} {K : PySem.W.Frag} {e a : Expr} {te ta : TE} {de da dk : DEt S} {dr : DNt S} {p pos : Pos}
omit [MOw S] in
def drVar (i : Nat) : DNt S := fun ε n P => ∃ o, ε[i]? = some (.rd o) ∧ P o n
theorem dr_var (i : Nat) {x : Str} (hN : X.N[i]? = some x := by rfl) (hv : Vis X.env.scope x := by first | exact Or.inl rfl | exact Or.inr (Or.inl rfl) | exact Or.inr (Or.inr rfl)) (hd : (x == ("__debug__" : Str)) = false := by decide)
    (hcd : (x == ("__classdict__" : Str)) = false := by decide) (hK : X.K = K := by rfl) : DR K X (.Name x pos) (tVar i) (drVar (S := S) i) := by
  subst hK
  exact ⟨pe_var hN hv hd hcd, fun bo G0 H0 σ H G ε n P Q r q k => by
    obtain ⟨o, h1, h2⟩ := q
    obtain ⟨v, f, e1, e2⟩ := r.rd i o h1
    exact ⟨v, e1, k v G H o f (Grow.refl r.gh) e2 h2⟩⟩
omit [MOw S] in
def drFld (C : Addr) (f : Str) (j : Nat) (dr : DNt S) : DNt S := fun ε n P => dr ε n fun o n1 => ∃ fs os c, o = .ins C fs os ∧ fs.Nodup ∧ fs[j]? = some f ∧ os[j]? = some c ∧ P c n1
theorem dr_fld {C : Addr} {f : Str} (j : Nat) (c : Cls K C) (na : NoAttr K C f) (ha : DR K X a ta dr) (hb : attributeBase a f X.env (eval a X.env) = eval a X.env := by rfl) (hK : X.K = K := by rfl) : DR K X (.Attribute a f pos) (tFld K ta f) (drFld C f j dr) := by
  subst hK
  exact ⟨pe_fld ha.pe hb, fun bo G0 H0 σ H G ε n P Q r q k => ha.se bo G0 H0 σ H G ε n _ _ r q fun v G1 H1 o f' g1 ro h1 => by
    obtain ⟨fs, os, ch, rfl, hn, hj, hc, h1⟩ := h1
    cases ro with
    | @ins x _ dx _ vs _ fp q q' l1 l2 t nf nd =>
      obtain ⟨w, f1, c1, c2, _⟩ := OwsR.focus t hc
      exact ⟨x, C, dx, _, w, rfl, g1.gh x _ q, c, na, lookup_zip hn hj c1, k w G1 H1 ch f1 g1 c2 h1⟩⟩
omit [MOw S] in
/-- as data -/
def dRd (dr : DNt S) : DEt S := fun ε n P => dr ε n fun o n1 => ∃ d, o.toD = some d ∧ P d n1
theorem dv_rd (ha : DR K X a ta dr) (hK : X.K = K := by rfl) : DV K X a ta (dRd dr) := by
  subst hK
  exact ⟨ha.pe, fun bo G0 H0 σ H G ε n P Q r q k => ha.se bo G0 H0 σ H G ε n _ _ r q fun v G1 H1 o f g1 ro h1 => by
    obtain ⟨d, e, h1⟩ := h1
    exact k v G1 H1 d g1 (ro.toDp e) h1⟩
omit [MOw S] in
/-- what is one's own in slot i stands still from here on, as it is -/
def dStd (i : Nat) (d1 : DSt S) : DSt S := fun D ε n => ∃ s o, ε[i]? = some s ∧ s.own = some o ∧ d1 D (ε.set i (.rd o)) n
theorem dss_std (i : Nat) {sts : List Stmt} {t : TS} {d1 : DSt S} (h : DSs K X sts t d1) (hK : X.K = K := by rfl) : DSs K X sts t (dStd i d1) := by
  subst hK
  exact ⟨h.ps, fun bo G0 H0 σ H G ε n D DD r l q => by
    obtain ⟨s, o, e1, e2, q⟩ := q
    obtain ⟨G', r'⟩ := r.standOb e1 e2
    exact h.ss bo G0 H0 σ H G' _ n D DD r' l q⟩
end
/-! ### methods -/
structure Km (P : Program) (w : World) (K : PySem.W.Frag) (mg : Str → Option Value) (base : Heap) (C : Addr) (x : Str) (k m : Nat) (con : ConS S) : Prop where
  ex : ∃ (f : Addr) (fd : FuncData) (ps : List Str), FnOk P w K mg base CX0 k f fd ps (spD K m con) ∧ Meth K C x f ∧ Binds K fd ps []
section
variable {X : Cx} {K : PySem.W.Frag} {x : Str} {k m : Nat} {con : ConS S} {o e : Expr} {es : List Expr} {to : TE} {ta : TA} {da : DAt S} {dr : DNt S} {p apos pos : Pos} {C : Addr}
omit [MOw S] in
/-- o.m(..), o a thing that stands still -/
def dMethR (C : Addr) (x : Str) (m : Nat) (con : ConS S) (dr : DNt S) (da : DAt S) : DEt S := fun ε n P => dr ε n fun o _ => ∃ fs os, o = .ins C fs os ∧ x ∉ fs ∧ da ε n fun as n2 => (Ag.rd o :: as).length = m ∧ con (.rd o :: as) n2 P
theorem de_methR {pl : Sem Bool} (c : Cls K C) (F : Km X.prog X.w K X.mg X.base C x k m con) (hr : Room k X.A) (ho : DR K X o to dr) (h : DA K X (e :: es) ta da) (hst : starEach (e :: es) X.env = (false, eval e X.env) :: starEach es X.env := by rfl) (hpl : (backTo pos (starEach es X.env)).any (·.1) = false := by rfl)
    (ht : eval (.Call (.Attribute o x apos) (e :: es) [] pos) X.env = (do
      let ov ← eval o X.env
      standAt apos.atName
      let (f, first) ← holding [ov] (getMethod ov x pl)
      callWith pos f first (backTo pos (starEach (e :: es) X.env)) (backToKw pos (keywordEach [] X.env))) := by rfl) (hK : X.K = K := by rfl) :
    DE K X (.Call (.Attribute o x apos) (e :: es) [] pos) (tMeth C x (spD K m con) [] E0 to ta) (dMethR C x m con dr da) := by
  subst hK
  obtain ⟨f, fd, ps, F1, F2, F3⟩ := F.ex
  exact ⟨pe_meth ho.pe c F2 F1 hr F3 .nil pass0 h.pa hst hpl ht, fun bo G0 H0 σ H G ε n P Q r q k => ho.se bo G0 H0 σ H G ε n _ _ r q fun v G1 H1 ob f g1 ro h1 => by
    obtain ⟨fs, os, rfl, hx, h1⟩ := h1
    have r1 := r.after g1
    have ro2 := ro
    cases ro with
    | @ins a _ dx _ vs _ fp q q' l1 l2 t nf nd =>
      refine ⟨a, dx, _, rfl, g1.gh a _ q, lookup_zip_none hx, h.se bo G0 H0 σ H1 G1 ε n _ _ r1 h1 fun us G2 H2 as n2 g2 b2 p2 h2 => ?_⟩
      have R2 := r1.grow g2 b2
      have pa : AgsR X.K bo G2 (.ref a :: us) (.rd (.ins C fs os) :: as) := .cons (a := .rd _) ⟨_, ro2.up g2.gg⟩ p2
      show spD X.K m con (.ref a :: (us ++ [])) H2 Q E0
      rw [List.append_nil]
      exact ⟨bo, G2, _, n2, P, (ags_len pa).trans h2.1, pa, g2.gh, b2, R2.gb, h2.2, fun v' G' H' d n' g' b' p' h' => k v' G' H' d n' ((g1.any.trans (r.bx.grow g1) g2).trans b2 g') b' p' h'⟩⟩
/-- x.m(..), x the one thing -/
def dMethB (C : Addr) (i : Nat) (x : Str) (m : Nat) (con : ConS S) (da : DAt S) : DEt S := fun ε n P => ε[i]? = some .bx ∧ (∃ fs os, MOw.ow n = some (.ins C fs os) ∧ x ∉ fs) ∧ da ε n fun as n2 => (Ag.bx :: as).length = m ∧ con (.bx :: as) n2 P
theorem de_methB {pl : Sem Bool} {y : Str} {p1 : Pos} (i : Nat) (c : Cls K C) (F : Km X.prog X.w K X.mg X.base C x k m con) (hr : Room k X.A) (h : DA K X (e :: es) ta da) (hN : X.N[i]? = some y := by rfl) (hv : Vis X.env.scope y := by first | exact Or.inl rfl | exact Or.inr (Or.inl rfl) | exact Or.inr (Or.inr rfl)) (hd : (y == ("__debug__" : Str)) = false := by decide) (hcd : (y == ("__classdict__" : Str)) = false := by decide)
    (hst : starEach (e :: es) X.env = (false, eval e X.env) :: starEach es X.env := by rfl) (hpl : (backTo pos (starEach es X.env)).any (·.1) = false := by rfl)
    (ht : eval (.Call (.Attribute (.Name y p1) x apos) (e :: es) [] pos) X.env = (do
      let ov ← eval (.Name y p1) X.env
      standAt apos.atName
      let (f, first) ← holding [ov] (getMethod ov x pl)
      callWith pos f first (backTo pos (starEach (e :: es) X.env)) (backToKw pos (keywordEach [] X.env))) := by rfl) (hK : X.K = K := by rfl) :
    DE K X (.Call (.Attribute (.Name y p1) x apos) (e :: es) [] pos) (tMeth C x (spD K m con) [] E0 (tVar i) ta) (dMethB C i x m con da) := by
  subst hK
  obtain ⟨f, fd, ps, F1, F2, F3⟩ := F.ex
  exact ⟨pe_meth (pe_var hN hv hd hcd) c F2 F1 hr F3 .nil pass0 h.pa hst hpl ht, fun bo G0 H0 σ H G ε n P Q r q k => by
    obtain ⟨hi, ⟨fs, os, ho, hx⟩, q⟩ := q
    obtain ⟨b, rfl, hs⟩ := r.bs i hi
    obtain ⟨fp, ro, _⟩ := MOw.out ho r.bx
    cases ro with
    | @ins a _ dx _ vs _ fp' q1 q' l1 l2 t nf nd =>
      refine ⟨_, hs, _, dx, _, rfl, q1, lookup_zip_none hx, h.se _ G0 H0 σ H G ε n _ _ r q fun us G2 H2 as n2 g2 b2 p2 h2 => ?_⟩
      have R2 := r.grow g2 b2
      have pa : AgsR X.K (some b) G2 (.ref b.ad :: us) (.bx :: as) := .cons (a := .bx) ⟨b, rfl, rfl⟩ p2
      show spD X.K m con (.ref b.ad :: (us ++ [])) H2 Q E0
      rw [List.append_nil]
      exact ⟨some b, G2, _, n2, P, (ags_len pa).trans h2.1, pa, g2.gh, b2, R2.gb, h2.2, fun v' G' H' d n' g' b' p' h' => k v' G' H' d n' (g2.trans b2 g') b' p' h'⟩⟩
end
end DL

set_option Elab.async false
set_option linter.all false
set_option autoImplicit false
set_option maxRecDepth 100000
namespace DL
open PySem PySem.Spec PyProof.Rows L2
variable {S : Type} [MOw S]
/-! ### a new object of a class -/
abbrev ConN := List Ag → (Own → Prop) → Prop
def spNew (K : PySem.W.Frag) (C : Addr) (m : Nat) (con : ConN) : Sp := fun vs H Q _ => ∃ (x dx : Addr) (ws : List V) (G : Hp) (as : List Ag) (P : Own → Prop), vs = .ref x :: ws ∧ H x = some (.ins C dx []) ∧ H dx = some (.own x) ∧ dx ≠ x ∧ G x = none ∧ G dx = none ∧ ws.length = m ∧ AgsR K none G ws as ∧ Same G H ∧ con as P ∧
  ∀ G' H' o f, Same G G' → Same G' H' → (∀ a, H a ≠ none → G a = none → G' a = none) → (∀ a u, a ≠ x → H a = some u → H' a = some u) → OwR K G' H' (.ref x) o f → (∀ a ∈ f, (a = x ∨ a = dx ∨ H a = none) ∧ G' a = none) → P o → Q .non H'
structure Kc (P : Program) (w : World) (K : PySem.W.Frag) (mg : Str → Option Value) (base : Heap) (x : Str) (C : Addr) (k m : Nat) (con : ConN) : Prop where
  ex : ∃ (f : Addr) (fd : FuncData) (ps : List Str), FnOk P w K mg base CX0 k f fd ps (spNew K C m con) ∧ Mk K C f ∧ mg x = some (.ref C) ∧ Binds K fd ps []
theorem ags_nobx {K : PySem.W.Frag} {bo : Option Bo} {G : Hp} : ∀ {vs : List V} {as : List Ag}, AgsR K bo G vs as → Ag.bx ∉ as → AgsR K none G vs as
  | _, _, .nil, _ => .nil
  | _, .im d :: _, .cons h t, hn => .cons (a := .im d) h (ags_nobx t fun z => hn (List.mem_cons_of_mem _ z))
  | _, .rd o :: _, .cons h t, hn => .cons (a := .rd o) h (ags_nobx t fun z => hn (List.mem_cons_of_mem _ z))
  | _, .bx :: _, .cons _ _, hn => absurd List.mem_cons_self hn
section
variable {X : Cx} {K : PySem.W.Frag} {x : Str} {C : Addr} {k m : Nat} {con : ConN} {e : Expr} {es : List Expr} {ta : TA} {da : DAt S} {p pos : Pos}
omit [MOw S] in
def dnMake (m : Nat) (con : ConN) (da : DAt S) : DNt S := fun ε n P => da ε n fun as n1 => as.length = m ∧ Ag.bx ∉ as ∧ con as fun o => P o n1
theorem dn_make (F : Kc X.prog X.w K X.mg X.base x C k m con) (hr : Room (k + 1) X.A) (hg : Gl X x) (h : DA K X (e :: es) ta da) (hdb : (x == ("__debug__" : Str)) = false := by decide)
    (he : starEach (e :: es) X.env = (false, eval e X.env) :: starEach es X.env := by rfl) (hpl : (backTo pos (starEach es X.env)).any (·.1) = false := by rfl) (hK : X.K = K := by rfl) :
    DN K X (.Call (.Name x p) (e :: es) [] pos) (tMake C (spNew K C m con) [] E0 ta) (dnMake m con da) := by
  subst hK
  obtain ⟨f, fd, ps, F1, F2, F3, F4⟩ := F.ex
  exact ⟨pe_make F2 F1 hr hg F3 F4 .nil pass0 h.pa hdb he hpl, fun bo G0 H0 σ H G ε n P Q R hp k =>
    h.se bo G0 H0 σ H G ε n _ _ R hp fun vs G1 H1 as n1 g1 b1 p1 h1 x dx hx hdx hne => by
      obtain ⟨hl, hnb, hc⟩ := h1
      have hlen := ags_len p1
      rw [List.append_nil]
      have gx : G1 x = none := g1.gh.free hx
      have gd : G1 dx = none := g1.gh.free hdx
      have up : ∀ a u, a ≠ x → a ≠ dx → H1 a = some u → (upd (upd H1 dx (.own x)) x (.ins C dx [])) a = some u := fun a u n1 n2 q => by rw [upd_ne n1, upd_ne n2]; exact q
      have sg : Same G1 (upd (upd H1 dx (.own x)) x (.ins C dx [])) := fun a u q => up a u (ne_of_none q gx) (ne_of_none q gd) (g1.gh a u q)
      refine ⟨x, dx, vs, G1, as, _, rfl, upd_same, by rw [upd_ne hne]; exact upd_same, hne, gx, gd, hlen.trans hl, ags_nobx p1 hnb, sg, hc, fun G' H' o f q1 q2 q3 q4 q5 q6 q7 => ⟨rfl, ?_⟩⟩
      have old : ∀ a u, H1 a = some u → H' a = some u := fun a u q => q4 a u (ne_of_none q hx) (up a u (ne_of_none q hx) (ne_of_none q hdx) q)
      have hst : ∀ a, H1 a ≠ none → (upd (upd H1 dx (.own x)) x (.ins C dx [])) a ≠ none := fun a q => by
        cases e : H1 a with
        | none => exact absurd e q
        | some u =>
          rw [up a u (ne_of_none e hx) (ne_of_none e hdx) e]
          exact fun z => nomatch z
      have g2 : Grow none G1 H1 G' H' := ⟨q1, q2, fun a z1 z2 => q3 a (hst a z1) z2, fun a u _ z => old a u z⟩
      refine k (.ref x) G' H' o f n1 (g1.trans b1 g2.any) (b1.grow g2) q5 (fun a ha => ⟨g1.back b1 ?_, (q6 a ha).2⟩) q7
      rcases (q6 a ha).1 with rfl | rfl | z
      · exact hx
      · exact hdx
      · cases e : H1 a with
        | none => rfl
        | some u =>
          rw [up a u (ne_of_none e hx) (ne_of_none e hdx) e] at z
          cases z⟩
end
end DL

set_option Elab.async false
set_option linter.all false
set_option autoImplicit false
set_option maxRecDepth 100000
namespace DL
open PySem PySem.Spec PyProof.Rows L2
variable {S : Type} [MOw S]
/-! ### a thing of one's own is handed to a def that changes it -/
def isRef : Own → Prop
  | .dat _ => False
  | _ => True
theorem ref_of {K : PySem.W.Frag} {G H : Hp} {v : V} {o : Own} {f : List Addr} (h : OwR K G H v o f) (hr : isRef o) : ∃ a, v = .ref a := by
  cases h with
  | dat _ => exact hr.elim
  | lst _ _ _ => exact ⟨_, rfl⟩
  | tup _ _ _ => exact ⟨_, rfl⟩
  | dct _ _ _ _ => exact ⟨_, rfl⟩
  | dki _ _ _ _ _ => exact ⟨_, rfl⟩
  | dkt _ _ _ _ _ => exact ⟨_, rfl⟩
  | dkl _ _ _ _ _ => exact ⟨_, rfl⟩
  | dtl _ _ _ _ _ => exact ⟨_, rfl⟩
  | ins _ _ _ _ _ _ _ => exact ⟨_, rfl⟩
theorem ags_any {K : PySem.W.Frag} {bo : Option Bo} {G : Hp} : ∀ {vs : List V} {as : List Ag}, AgsR K none G vs as → AgsR K bo G vs as
  | _, _, .nil => .nil
  | _, .im d :: _, .cons h t => .cons (a := .im d) h (ags_any t)
  | _, .rd o :: _, .cons h t => .cons (a := .rd o) h (ags_any t)
  | _, .bx :: _, .cons h _ => by
    obtain ⟨_, e, _⟩ := h
    cases e
section
variable {X : Cx} {K : PySem.W.Frag} {x : Str} {k m : Nat} {con : ConS Own} {e : Expr} {es : List Expr} {te : TE} {ta : TA} {da : DAt S} {dn : DNt S} {p pos : Pos}
omit [MOw S] in
/-- f(new thing, ..) -/
def dCallNew (m : Nat) (con : ConS Own) (dn : DNt S) (da : DAt S) : DEt S := fun ε n P => dn ε n fun o n1 => isRef o ∧ da ε n1 fun as n2 => Ag.bx ∉ as ∧ (Ag.bx :: as).length = m ∧ con (.bx :: as) o fun d _ => P d n2
theorem de_callNew (F : Kf (S := Own) X.prog X.w K X.mg X.base x k m con) (hr : Room k X.A) (hg : Gl X x) (h0 : DN K X e te dn) (h : DA K X es ta da) (hdb : (x == ("__debug__" : Str)) = false := by decide)
    (he : starEach (e :: es) X.env = (false, eval e X.env) :: starEach es X.env := by rfl) (hpl : (backTo pos (starEach es X.env)).any (·.1) = false := by rfl) (hK : X.K = K := by rfl) :
    DE K X (.Call (.Name x p) (e :: es) [] pos) (tCall (spD (S := Own) K m con) [] E0 (tCons te ta)) (dCallNew m con dn da) := by
  subst hK
  obtain ⟨f, fd, ps, F1, F2, F3, F4⟩ := F.ex
  exact ⟨pe_call F1 hr hg F2 F3 F4 .nil pass0 (pa_cons h0.pe h.pa he) hdb he hpl, fun bo G0 H0 σ H G ε n P Q R hp k =>
    h0.se bo G0 H0 σ H G ε n _ _ R hp fun v G1 H1 o f n1 g1 b1 r1 e1 h1 => by
      obtain ⟨ir, h1⟩ := h1
      refine h.se bo G0 H0 σ H1 G1 ε n1 _ _ (R.grow g1 b1) h1 fun us G2 H2 as n2 g2 b2 p2 h2 => ?_
      obtain ⟨hnb, hl, hc⟩ := h2
      obtain ⟨ad, rfl⟩ := ref_of r1 ir
      have hfb : ∀ a ∈ f, ¬ Has bo a := fun a ha z => R.bx.some_ne z (e1 a ha).1
      have r2 : OwR X.K G2 H2 (.ref ad) o f := r1.keep g2.gg fun a ha u q => g2.kp a u (hfb a ha) q
      have pa : AgsR X.K (some ⟨ad, f⟩) G2 (.ref ad :: us) (.bx :: as) := .cons (a := .bx) ⟨⟨ad, f⟩, rfl, rfl⟩ (ags_any (ags_nobx p2 hnb))
      show spD (S := Own) X.K m con ((.ref ad :: us) ++ []) H2 Q E0
      rw [List.append_nil]
      refine ⟨some ⟨ad, f⟩, G2, _, o, _, (ags_len pa).trans hl, pa, g2.gh, ⟨f, r2, fun a ha => ha, r2.ne⟩, fun a ha => g2.fr a (r1.ne a ha) (e1 a ha).2, hc, fun v' G' H' d n' g3 _ p3 h3 => ?_⟩
      have g12 := g1.trans b1 g2
      have hnf : ∀ a u, H a = some u → a ∉ f := fun a u q z => by
        rw [(e1 a z).1] at q
        cases q
      have hH2 : ∀ a, H a ≠ none → H2 a ≠ none := fun a q => by
        by_cases z : Has bo a
        · exact b2.some_ne z
        · exact st_ne q fun u y => g12.kp a u z y
      refine k v' G' H' d n2 ⟨g12.gg.trans g3.gg, g3.gh, fun a z1 z2 => g3.fr a (hH2 a z1) (g12.fr a z1 z2), fun a u z1 z2 => g3.kp a u (hnf a u z2) (g12.kp a u z1 z2)⟩ (b2.keep g3.gg fun a ha u z => g3.kp a u (fun y => hfb a y ha) z) p3 h3⟩
omit [MOw S] in
/-- y = f(x, ..), x a thing of one's own -/
def dSetCallB (j i m : Nat) (con : ConS Own) (da : DAt S) : DSt S := fun D ε n => ∃ s o, ε[i]? = some s ∧ s.own = some o ∧ isRef o ∧ da ε n fun as n2 => Ag.bx ∉ as ∧ (Ag.bx :: as).length = m ∧ con (.bx :: as) o fun d o' => D.nx ((ε.set i (.ob o')).set j (.im d)) n2
theorem ds_setCallB {y z : Str} {p1 pos' spos : Pos} (j i : Nat) (F : Kf (S := Own) X.prog X.w K X.mg X.base x k m con) (hr : Room k X.A) (hg : Gl X x) (h : DA K X es ta da) (hN : X.N.Nodup) (hj : X.N[j]? = some z) (hzl : Loc X.env.scope z)
    (hi : X.N[i]? = some y := by rfl) (hv : Vis X.env.scope y := by first | exact Or.inl rfl | exact Or.inr (Or.inl rfl) | exact Or.inr (Or.inr rfl)) (hd : (y == ("__debug__" : Str)) = false := by decide) (hcd : (y == ("__classdict__" : Str)) = false := by decide) (hdb : (x == ("__debug__" : Str)) = false := by decide)
    (he : starEach (.Name y p1 :: es) X.env = (false, eval (.Name y p1) X.env) :: starEach es X.env := by rfl) (hpl : (backTo pos (starEach es X.env)).any (·.1) = false := by rfl)
    (hs : swapsWith (.Call (.Name x p) (.Name y p1 :: es) [] pos) (some (.Name z pos')) spos.line X.env = pure false := by rfl) (hf : X.fn z = true ∨ X.env.scope.names.lookup z = some .local := by first | exact .inl rfl | exact .inr rfl | assumption) (hK : X.K = K := by rfl) :
    DS K X (.Assign [.Name z pos'] (.Call (.Name x p) (.Name y p1 :: es) [] pos) spos) (tAsg (tCall (spD (S := Own) K m con) [] E0 (tCons (tVar i) ta)) (gName j)) (dSetCallB j i m con da) := by
  subst hK
  obtain ⟨f, fd, ps, F1, F2, F3, F4⟩ := F.ex
  refine ⟨ps_set hN hj hzl (pe_call F1 hr hg F2 F3 F4 .nil pass0 (pa_cons (pe_var hi hv hd hcd) h.pa he) hdb he hpl) hs hf, fun bo G0 H0 σ H G ε n D DD r l q => ?_⟩
  obtain ⟨s, o, e1, e2, ir, q⟩ := q
  obtain ⟨v, fp, hvv, hro, hfp, hk⟩ := r.putObG e1 e2
  obtain ⟨ad, rfl⟩ := ref_of hro ir
  refine ⟨.ref ad, hvv, h.se bo G0 H0 σ H G ε n _ _ r q fun us G2 H2 as n2 g2 b2 p2 h2 => ?_⟩
  obtain ⟨hnb, hl, hc⟩ := h2
  have hfb : ∀ a ∈ fp, ¬ Has bo a := fun a ha => (hfp a ha).2.1
  have r2 : OwR X.K G2 H2 (.ref ad) o fp := hro.keep g2.gg fun a ha u z => g2.kp a u (hfb a ha) z
  have pa : AgsR X.K (some ⟨ad, fp⟩) G2 (.ref ad :: us) (.bx :: as) := .cons (a := .bx) ⟨⟨ad, fp⟩, rfl, rfl⟩ (ags_any (ags_nobx p2 hnb))
  show spD (S := Own) X.K m con ((.ref ad :: us) ++ []) H2 _ E0
  rw [List.append_nil]
  refine ⟨some ⟨ad, fp⟩, G2, _, o, _, (ags_len pa).trans hl, pa, g2.gh, ⟨fp, r2, fun a ha => ha, r2.ne⟩, fun a ha => g2.fr a (hro.ne a ha) (hfp a ha).1, hc, fun v' G' H' d o' g3 b3 p3 h3 => ?_⟩
  obtain ⟨f3, r3, s3, _⟩ := b3
  have hH2 : ∀ a, H a ≠ none → H2 a ≠ none := fun a q => by
    by_cases z : Has bo a
    · exact b2.some_ne z
    · exact st_ne q fun u y => g2.kp a u z y
  have rr := hk (.ob o') o' rfl G' H' f3 n2 (g2.gg.trans g3.gg) g3.gh (fun a z1 z2 => g3.fr a (hH2 a z1) (g2.fr a z1 z2)) (fun a u z1 z2 z3 => g3.kp a u z1 (g2.kp a u z2 z3)) (b2.keep g3.gg fun a ha u z => g3.kp a u (fun y => hfb a y ha) z) r3 (fun a ha => .inl (s3 a ha))
  exact l.nx _ H' G' _ n2 (rr.setIm p3 j) h3
end
end DL

set_option Elab.async false
set_option linter.all false
set_option autoImplicit false
set_option maxRecDepth 100000
namespace DL
open PySem PySem.Spec PyProof.Rows L2 HT
/-! ### list(..) of what gives out pairs: zip, enumerate -/
/-- pairs given out one by one, each as a new tuple, while at d a list is filled -/
structure NSrc (P : Program) (w : World) (it d : Addr) (fp : List Addr) (n : Nat) (Rel : Nat → Value → Value → Prop) (St : Nat → Heap → Prop) : Prop where
  frame : ∀ i h h', St i h → (∀ b o, b ≠ d → h.get? b = some o → h'.get? b = some o) → St i h'
  old : ∀ i h, St i h → ∀ b ∈ fp, b < h.objs.size
  item : ∀ (A : Around) (i : Nat) (s : Shared) (Q : Option Value → Shared → Prop) (E : Value → Shared → Prop), i < n → St i s.heap → d < s.heap.objs.size →
    (∀ k v h' tk, Rel i k v → IsTup h' s.heap.objs.size #[k, v] → St (i + 1) h' → (∀ b o, b ∉ fp → s.heap.get? b = some o → h'.get? b = some o) → Q (some (.ref s.heap.objs.size)) { s with heap := h', toks := tk }) → wpAny (model P w) A (pyNext (.ref it)) Q E s
  done : ∀ (A : Around) (s : Shared) (Q : Option Value → Shared → Prop) (E : Value → Shared → Prop), A.handled = none → St n s.heap →
    (∀ h' tk, (∀ b o, b ∉ fp → s.heap.get? b = some o → h'.get? b = some o) → Q none { s with heap := h', toks := tk }) → wpAny (model P w) A (pyNext (.ref it)) Q E s
/-- the tuples at ps are the pairs that f tells -/
def Prs (f : Nat → V × V) (H0 H : Hp) (ps : List Addr) : Prop := ∀ j p, ps[j]? = some p → H0 p = none ∧ H p = some (.tup [(f j).1, (f j).2])
section
variable {X : Cx} {pins : List (Addr × Obj)} {σ : L2.St} {A : Around} {it d : Addr} {fp : List Addr} {n : Nat} {f : Nat → V × V} {St : Nat → Heap → Prop} {R : Result → Shared → Prop}
theorem fpOk_upd {H : Hp} {T b : Addr} {o : HO} (h : FpOk X pins H b) (hb : b ≠ T) : FpOk X pins (upd H T o) b := ⟨by rw [upd_ne hb]; exact h.1, h.2⟩
theorem vals_push {vs : List V} {us : List Value} {v : V} {u : Value} (h : Vals vs us) (r : RelV v u) : Vals (vs ++ [v]) (us ++ [u]) := h.append (.cons r .nil)
theorem msq (its : List Value) (c : Nat) (v : Value) : ∃ m, Obj.mapSeq (·.push v) { cls := .type "list", data := .seq its.toArray c } = { cls := .type "list", data := .seq (its ++ [v]).toArray m } := by
  rw [← List.push_toArray]
  exact ⟨_, rfl⟩
/-- the list's loop, from pair i on -/
theorem nloop (hh : A.handled = none) (S : NSrc X.prog X.w it d fp n (fun i k v => RelV (f i).1 k ∧ RelV (f i).2 v) St) (hn : n ≤ 100000) (res : Value) {H0 : Hp}
    (hR : ∀ s' H' ps, Inv X pins σ H' s' → (∀ b o, H0 b = some o → H' b = some o) → ps.length = n → Prs f H0 H' ps → H' d = some (.lst (ps.map V.ref)) → R (.ok (.ret res)) s') :
    ∀ (k i : Nat) (s : Shared) (H : Hp) (ps : List Addr), n - i = k → i ≤ n → St i s.heap → Inv X pins σ H s → (∀ b ∈ fp, FpOk X pins H b) → H d = some (.lst (ps.map V.ref)) → H0 d = none → ps.length = i → Prs f H0 H ps → (∀ b o, H0 b = some o → H b = some o) →
      codeAny (model X.prog X.w) A (.builtin "list.extend.loop" ⟨[.ref d, .ref it, res], []⟩) R s := by
  intro k
  induction k with
  | zero =>
    intro i s H ps hk hi st Iv hf hd hd0 hl hp hm
    have hin : i = n := by omega
    subst hin
    refine codeAny_builtin F.entry_extend_loop ?_
    rw [Around.under_plainId F.plain_extend_loop _]
    show wpAny _ A.in1 (pyNext (.ref it) >>= _) _ _ s
    refine wpAny_bind (S.done A.in1 s _ _ hh st fun h' tk hkp => ?_)
    exact wpAny_pure (hR _ H ps (Iv.turnedL hkp hf) hm hl hp hd)
  | succ k ih =>
    intro i s H ps hk hi st Iv hf hd hd0 hl hp hm
    have hlt : i < n := by omega
    have hdl : d < s.heap.objs.size := (Iv.hok d _ hd).lt
    refine codeAny_builtin F.entry_extend_loop ?_
    rw [Around.under_plainId F.plain_extend_loop _]
    show wpAny _ A.in1 (pyNext (.ref it) >>= _) _ _ s
    refine wpAny_bind (S.item A.in1 i s _ _ hlt st hdl fun kv vv h' tk rel hT st' hkp => ?_)
    have hTn : H s.heap.objs.size = none := Iv.hok.fresh (Nat.le_refl _)
    have hT0 : H0 s.heap.objs.size = none := by
      cases e : H0 s.heap.objs.size with
      | none => rfl
      | some o =>
        rw [hm _ _ e] at hTn
        cases hTn
    have hTd : d ≠ s.heap.objs.size := fun e => by
      rw [← e, hd] at hTn
      cases hTn
    have I1 : Inv X pins σ (upd H s.heap.objs.size (.tup [(f i).1, (f i).2])) { s with heap := h', toks := tk } :=
      Iv.turnedNew (t' := tk) (ch := fp) hkp hf (Nat.le_refl _) ⟨by show 2 ≤ sizeLine; decide, [kv, vv], .cons rel.1 (.cons rel.2 .nil), hT⟩
    have hf1 : ∀ b ∈ fp, FpOk X pins (upd H s.heap.objs.size (.tup [(f i).1, (f i).2])) b := fun b hb => fpOk_upd (hf b hb) (Nat.ne_of_lt (S.old i _ st b hb))
    have hd1 : (upd H s.heap.objs.size (.tup [(f i).1, (f i).2])) d = some (.lst (ps.map V.ref)) := by
      rw [upd_ne hTd]
      exact hd
    obtain ⟨hz, its, c, rv, ho⟩ := I1.hok d _ hd1
    have hlen : its.toArray.size = i := by
      rw [List.size_toArray, ← rv.length, List.length_map]
      exact hl
    have hdf : d ∉ fp := fun z => by
      have := (hf d z).1
      rw [hd] at this
      cases this
    show wpAny _ A.in1 (updateSeq d (·.push (.ref s.heap.objs.size)) >>= _) _ _ _
    refine wpAny_bind ?_
    refine wpAny_updateSeq ho rfl (wpAny_pure ⟨plainId_quiet F.plain_extend_loop _, ?_⟩) (by rw [hlen, sizeLine_eq]; omega) (by show (its.toArray.push _).size ≤ sizeLine + 1; rw [Array.size_push, hlen, sizeLine_eq]; omega)
    have ho2 := Heap.get?_update_self (Obj.mapSeq (·.push (Value.ref s.heap.objs.size))) ho rfl
    have oth : ∀ (b : Addr) (u : Obj), b ≠ d → h'.get? b = some u → (h'.update d (Obj.mapSeq (·.push (Value.ref s.heap.objs.size)))).get? b = some u := fun b u hb e => (Heap.get?_update_other _ _ (Ne.symm hb)).trans e
    have I2 : Inv X pins σ (upd (upd H s.heap.objs.size (.tup [(f i).1, (f i).2])) d (.lst ((ps ++ [s.heap.objs.size]).map V.ref))) { s with heap := h'.update d (Obj.mapSeq (·.push (Value.ref s.heap.objs.size))), toks := tk } := by
      refine I1.write (t' := tk) (e := d) (by rw [hd1]; trivial) (.inl rfl) oth ⟨_, ho2⟩ ⟨?_, its ++ [.ref s.heap.objs.size], (msq its c (.ref s.heap.objs.size)).choose, ?_, ?_⟩
      · rw [List.length_map, List.length_append, hl, sizeLine_eq]
        show i + 1 ≤ _
        omega
      · rw [List.map_append]
        exact vals_push rv rfl
      · exact ho2.trans (congrArg some (msq its c (.ref s.heap.objs.size)).choose_spec)
    refine ih (i + 1) _ _ (ps ++ [s.heap.objs.size]) (by omega) hlt (S.frame _ _ _ st' oth) I2 (fun b hb => fpOk_upd (hf1 b hb) fun e => hdf (e ▸ hb)) upd_same hd0 (by rw [List.length_append, hl]; rfl) (fun j p hj => ?_) fun b o e => ?_
    · by_cases hjl : j < ps.length
      · rw [List.getElem?_append_left hjl] at hj
        obtain ⟨q1, q2⟩ := hp j p hj
        refine ⟨q1, ?_⟩
        rw [upd_ne (show p ≠ d from fun e => by rw [e, hd] at q2; cases q2), upd_ne (show p ≠ s.heap.objs.size from fun e => by rw [e, hTn] at q2; cases q2)]
        exact q2
      · have hj' : j < (ps ++ [s.heap.objs.size]).length := (List.getElem?_eq_some_iff.mp hj).1
        rw [List.length_append] at hj'
        have : j = ps.length := by simp at hj'; omega
        subst this
        rw [List.getElem?_append_right (Nat.le_refl _), Nat.sub_self] at hj
        cases hj
        refine ⟨hT0, ?_⟩
        rw [upd_ne (Ne.symm hTd), upd_same, hl]
    · have hb : b ≠ d := fun z => by
        rw [z, hd0] at e
        cases e
      rw [upd_ne hb, upd_ne (show b ≠ s.heap.objs.size from fun z => by rw [z, hT0] at e; cases e)]
      exact hm b o e
end
end DL

set_option Elab.async false
set_option linter.all false
set_option autoImplicit false
set_option maxRecDepth 100000
namespace DL
open PySem PySem.Spec PyProof.Rows L2 HT
theorem zip_no_len : typeLookup (.type "zip") "__len__" = pure none := am_miss_of_fast (by decide +kernel)
theorem zip_no_hint : typeLookup (.type "zip") "__length_hint__" = pure none := am_miss_of_fast (by decide +kernel)
theorem enum_no_len : typeLookup (.type "enumerate") "__len__" = pure none := am_miss_of_fast (by decide +kernel)
theorem enum_no_hint : typeLookup (.type "enumerate") "__length_hint__" = pure none := am_miss_of_fast (by decide +kernel)
section
variable {X : Cx} {pins : List (Addr × Obj)} {σ : L2.St} {A : Around} {it : Addr} {fp : List Addr} {n : Nat} {f : Nat → V × V} {St : Nat → Heap → Prop} {T : String} {s : Shared} {E : Value → Shared → Prop}
theorem hint_none {P : Program} {w : World} {Q : Bool → Shared → Prop} (hT : T = "zip" ∨ T = "enumerate") (ht : s.TypeIs (.ref it) T) (h : Q true s) : wpAny (model P w) A (Builtin.List.listLengthHint (.ref it)) Q E s := by
  unfold Builtin.List.listLengthHint
  have l1 : typeLookup (.type T) "__len__" = pure none := by rcases hT with rfl | rfl; exact zip_no_len; exact enum_no_len
  have l2 : typeLookup (.type T) "__length_hint__" = pure none := by rcases hT with rfl | rfl; exact zip_no_hint; exact enum_no_hint
  refine wpAny_bind (wpAny_specialOf ht l1 ?_)
  refine wpAny_bind (wpAny_specialOf ht l2 ?_)
  exact wpAny_pure h
theorem msq0 (c : Nat) (g : Array Value → Array Value) (hg : g #[] = #[]) : Obj.mapSeq g { cls := .type "list", data := .seq #[] c } = { cls := .type "list", data := .seq #[] c } := by
  unfold Obj.mapSeq
  simp only [hg]
  rfl
/-- list(it) of such a giver of pairs -/
theorem call_list_src {H : Hp} {Q : Value → Shared → Prop} (hT : T = "zip" ∨ T = "enumerate") (hh : A.handled = none) (S : NSrc X.prog X.w it s.heap.objs.size fp n (fun i k v => RelV (f i).1 k ∧ RelV (f i).2 v) St) (hn : n ≤ 100000)
    (ty : ∀ h, St 0 h → ∃ o, h.get? it = some o ∧ o.cls = .type T) (iter : ∀ (A : Around) (s : Shared) (Q : Value → Shared → Prop) (E : Value → Shared → Prop), St 0 s.heap → Q (.ref it) s → wpAny (model X.prog X.w) A (pyIter (.ref it)) Q E s)
    (Iv : Inv X pins σ H s) (hf : ∀ b ∈ fp, FpOk X pins H b) (st : St 0 s.heap)
    (hQ : ∀ s' H' ps, Inv X pins σ H' s' → (∀ b o, H b = some o → H' b = some o) → ps.length = n → Prs f H H' ps → H s.heap.objs.size = none → H' s.heap.objs.size = some (.lst (ps.map V.ref)) → Q (.ref s.heap.objs.size) s') :
    wpAny (model X.prog X.w) A (call (.type "list") [.ref it]) Q E s := by
  have hdn : H s.heap.objs.size = none := Iv.hok.fresh (Nat.le_refl _)
  refine callType_codes (Q₁ := fun obj s₁ => obj = .ref s.heap.objs.size ∧ s₁ = { s with heap := s.heap.push { cls := .type "list", data := .seq #[] } }) F.called_list (F.typeCall_list_1 _) F.entry_list_init
    (code_list_new _ ⟨rfl, rfl⟩) fun obj s₁ h₁ => ?_
  obtain ⟨rfl, rfl⟩ := h₁
  have hS : (s.heap.push { cls := .type "list", data := .seq #[] }).get? s.heap.objs.size = some { cls := .type "list", data := .seq #[] } := Heap.get?_push_size _ rfl
  have kp : ∀ b u, s.heap.get? b = some u → (s.heap.push { cls := .type "list", data := .seq #[] }).get? b = some u := fun b u e => Heap.get?_push_of_some _ e
  have I1 : Inv X pins σ (upd H s.heap.objs.size (.lst ([].map V.ref))) { s with heap := s.heap.push { cls := .type "list", data := .seq #[] } } := Iv.laid (t' := s.toks) kp (Nat.le_refl _) ⟨Nat.zero_le _, [], 0, .nil, hS⟩
  have st1 := S.frame 0 _ _ st fun b o _ e => kp b o e
  have hf1 : ∀ b ∈ fp, FpOk X pins (upd H s.heap.objs.size (.lst ([].map V.ref))) b := fun b hb => fpOk_upd (hf b hb) (Nat.ne_of_lt (S.old 0 _ st b hb))
  refine ⟨⟨_, hS, rfl⟩, F.args_list_init_2 _ _, ?_⟩
  have hne : s.heap.objs.size ≠ it := fun e => by
    obtain ⟨o, ho, _⟩ := ty _ st
    exact absurd (Heap.lt_size ho) (by rw [← e]; exact Nat.lt_irrefl _)
  have go : ∀ (s2 : Shared), St 0 s2.heap → Inv X pins σ (upd H s.heap.objs.size (.lst ([].map V.ref))) s2 → codeAny (model X.prog X.w) A.in1 (.builtin "list.extend.loop" ⟨[.ref s.heap.objs.size, .ref it, .none], []⟩) (wants (fun r s₂ => r = .none ∧ Q (.ref s.heap.objs.size) s₂) E) s2 := fun s2 z I2 =>
    nloop (A := A.in1) (H0 := H) hh S hn .none (fun s' H' ps i1 i2 i3 i4 i5 => ⟨rfl, hQ s' H' ps i1 i2 i3 i4 hdn i5⟩) n 0 s2 _ [] rfl (Nat.zero_le _) z I2 hf1 upd_same hdn rfl (fun j p hj => nomatch hj) fun b o e => by
      rw [upd_ne (show b ≠ s.heap.objs.size from fun z => by rw [z, hdn] at e; cases e)]
      exact e
  -- what stands at the list alone may be written
  have wr : ∀ (s2 : Shared) (c c' : Nat) (h2 : Heap), Inv X pins σ (upd H s.heap.objs.size (.lst ([].map V.ref))) s2 → (∀ b o, b ≠ s.heap.objs.size → s2.heap.get? b = some o → h2.get? b = some o) → h2.get? s.heap.objs.size = some { cls := .type "list", data := .seq #[] c' } → Inv X pins σ (upd H s.heap.objs.size (.lst ([].map V.ref))) { s2 with heap := h2 } := fun s2 c c' h2 I2 k2 e2 => by
    have I3 := I2.write (h' := h2) (t' := s2.toks) (x := s.heap.objs.size) (e := s.heap.objs.size) (o := .lst ([].map V.ref)) (by rw [upd_same]; trivial) (.inl rfl) k2 ⟨_, e2⟩ ⟨Nat.zero_le _, [], c', .nil, e2⟩
    have e : upd (upd H s.heap.objs.size (.lst ([].map V.ref))) s.heap.objs.size (.lst ([].map V.ref)) = upd H s.heap.objs.size (.lst ([].map V.ref)) := by
      funext b
      by_cases z : b = s.heap.objs.size
      · rw [z, upd_same, upd_same]
      · rw [upd_ne z]
    rw [e] at I3
    exact I3
  show wpAny _ _ (do let old ← Builtin.List.listItems (.ref s.heap.objs.size); Builtin.List.listUpdate (.ref s.heap.objs.size) (fun _ => #[]); letGo old.toList.reverse; Builtin.List.listExtendWith (.ref s.heap.objs.size) (.ref it) .none) _ _ _
  refine wpAny_bind ?_
  unfold Builtin.List.listItems
  refine wpAny_bind (wpAny_seqItems hS rfl (wpAny_pure ?_))
  show wpAny _ _ (updateSeq s.heap.objs.size (fun _ => #[]) >>= fun _ => letGo (#[] : Array Value).toList.reverse >>= fun _ => Builtin.List.listExtendWith (.ref s.heap.objs.size) (.ref it) .none) _ _ _
  refine wpAny_bind (wpAny_updateSeq hS rfl ?_)
  have hS2 := Heap.get?_update_self (Obj.mapSeq (fun _ => (#[] : Array Value))) hS rfl
  rw [msq0 0 _ rfl] at hS2
  have k2 : ∀ b o, b ≠ s.heap.objs.size → (s.heap.push { cls := .type "list", data := .seq #[] }).get? b = some o → ((s.heap.push { cls := .type "list", data := .seq #[] }).update s.heap.objs.size (Obj.mapSeq (fun _ => (#[] : Array Value)))).get? b = some o :=
    fun b o hb e => (Heap.get?_update_other _ _ (Ne.symm hb)).trans e
  have I2 := wr _ 0 0 _ I1 k2 hS2
  have st2 := S.frame 0 _ _ st1 k2
  refine wpAny_bind (wpAny_letGo ?_)
  obtain ⟨oi, hoi, hci⟩ := ty _ st2
  unfold Builtin.List.listExtendWith
  refine wpAny_bind (wpAny_typeOf (T := T) ⟨oi, hoi, hci⟩ ?_)
  have h1 : Builtin.List.listSameRef (.ref s.heap.objs.size) (.ref it) = false := by simp [Builtin.List.listSameRef, hne]
  have h2 : (Value.type T == Value.type "list") = false := by rcases hT with rfl | rfl <;> decide
  have h3 : (Value.type T == Value.type "tuple") = false := by rcases hT with rfl | rfl <;> decide
  simp only [h1, h2, h3, Bool.or_false, Bool.false_eq_true, if_false]
  refine wpAny_bind (iter _ _ _ _ st2 ?_)
  refine wpAny_bind (wpAny_holding (hint_none hT ⟨oi, hoi, hci⟩ ?_))
  refine wpAny_ite_split (fun _ => ?_) (fun z => absurd (show (true || _) = true from Bool.true_or _) z)
  refine wpAny_bind (wpAny_rule ?_)
  refine wpAny_bind ?_
  show wpAny _ _ (updateSeq s.heap.objs.size (·.push .none) >>= fun _ => updateSeq s.heap.objs.size (·.pop)) _ _ _
  refine wpAny_bind (wpAny_updateSeq hS2 rfl ?_)
  have hS3 := Heap.get?_update_self (Obj.mapSeq (·.push Value.none)) hS2 rfl
  refine wpAny_updateSeq (hz := by seq_fits) hS3 rfl ?_
  have hS4 := Heap.get?_update_self (Obj.mapSeq (·.pop)) hS3 rfl
  have k4 : ∀ b o, b ≠ s.heap.objs.size → ((s.heap.push { cls := .type "list", data := .seq #[] }).update s.heap.objs.size (Obj.mapSeq (fun _ => (#[] : Array Value)))).get? b = some o → ((((s.heap.push { cls := .type "list", data := .seq #[] }).update s.heap.objs.size (Obj.mapSeq (fun _ => (#[] : Array Value)))).update s.heap.objs.size (Obj.mapSeq (·.push Value.none))).update s.heap.objs.size (Obj.mapSeq (·.pop))).get? b = some o :=
    fun b o hb e => (Heap.get?_update_other _ _ (Ne.symm hb)).trans ((Heap.get?_update_other _ _ (Ne.symm hb)).trans e)
  have I4 := wr _ 0 2 _ I2 k4 hS4
  exact wpAny_pure ⟨plainId_quiet F.plain_extend_loop _, go _ (S.frame 0 _ _ st2 k4) I4⟩
end
end DL

set_option Elab.async false
set_option linter.all false
set_option autoImplicit false
set_option maxRecDepth 100000
namespace DL
open PySem PySem.Spec PyProof.Rows L2 HT
/-- zip of two lists, its last tuple still out or none given yet -/
def ZSt (d z TI TO i1 i2 l1 l2 : Addr) (xs ys : Array Value) (i : Nat) (h : Heap) : Prop :=
  IsPair h TI (.ref i1) (.ref i2) ∧ h.IsListIter i1 l1 i ∧ h.IsListIter i2 l2 i ∧ h.IsList l1 xs ∧ h.IsList l2 ys ∧ (∃ a b, IsPair h TO a b) ∧
    (IsZip h z TI TO .none ∨ ∃ T g o, IsZipHeld h z TI TO T g ∧ h.get? T = some o ∧ T ≠ z ∧ T ≠ i1 ∧ T ≠ i2 ∧ T ≠ d)
theorem zst_type {d z TI TO i1 i2 l1 l2 : Addr} {xs ys : Array Value} {i : Nat} {h : Heap} (st : ZSt d z TI TO i1 i2 l1 l2 xs ys i h) : ∃ o, h.get? z = some o ∧ o.cls = .type "zip" := by
  obtain ⟨_, _, _, _, _, _, e | ⟨T, g, o, e, _⟩⟩ := st
  · exact ⟨_, e, rfl⟩
  · exact ⟨_, e, rfl⟩
theorem nsrc_zip {P : Program} {w : World} {d z TI TO i1 i2 l1 l2 : Addr} (D : ZipApart z TI TO i1 i2 l1 l2) (hd : d ∉ [z, TI, TO, i1, i2, l1, l2]) (xs ys : Array Value) {Rel : Nat → Value → Value → Prop} (hr : ∀ i k v, xs[i]? = some k → ys[i]? = some v → Rel i k v) :
    NSrc P w z d [z, TI, TO, i1, i2] (min xs.size ys.size) Rel (ZSt d z TI TO i1 i2 l1 l2 xs ys) := by
  simp only [List.mem_cons, List.not_mem_nil, or_false, not_or] at hd
  obtain ⟨d1, d2, d3, d4, d5, d6, d7⟩ := hd
  constructor
  · intro i h h' ⟨s1, s2, s3, s4, s5, ⟨a, b, s6⟩, s7⟩ kp
    refine ⟨kp _ _ (Ne.symm d2) s1, s2.at fun o => kp _ o (Ne.symm d4), s3.at fun o => kp _ o (Ne.symm d5), s4.at fun o => kp _ o (Ne.symm d6), s5.at fun o => kp _ o (Ne.symm d7), ⟨a, b, kp _ _ (Ne.symm d3) s6⟩, ?_⟩
    exact s7.imp (fun e => kp _ _ (Ne.symm d1) e) fun ⟨T, g, o, e, eT, r1, r2, r3, r4⟩ => ⟨T, g, o, kp _ _ (Ne.symm d1) e, kp _ _ r4 eT, r1, r2, r3, r4⟩
  · intro i h st b hb
    obtain ⟨oz, ez, _⟩ := zst_type st
    obtain ⟨s1, ⟨_, s2, _⟩, ⟨_, s3, _⟩, s4, s5, ⟨a, c, s6⟩, s7⟩ := st
    simp only [List.mem_cons, List.not_mem_nil, or_false] at hb
    rcases hb with rfl | rfl | rfl | rfl | rfl
    · exact Heap.lt_size ez
    · exact Heap.lt_size s1
    · exact Heap.lt_size s6
    · exact Heap.lt_size s2
    · exact Heap.lt_size s3
  · intro A i s Q E hi st hdl k
    have oldz := (zst_type st).elim fun o e => Heap.lt_size e.1
    obtain ⟨s1, s2, s3, s4, s5, ⟨a, b, s6⟩, s7⟩ := st
    have ex := Array.getElem?_eq_getElem (show i < xs.size by omega)
    have ey := Array.getElem?_eq_getElem (show i < ys.size by omega)
    have o1 : i1 < s.heap.objs.size := s2.elim fun o e => Heap.lt_size e.1
    have o2 : i2 < s.heap.objs.size := s3.elim fun o e => Heap.lt_size e.1
    rcases s7 with e | ⟨T, g, o, e, eT, r1, r2, r3, r4⟩
    · refine wpAny_pyNext_zip_item D e s1 s6 s2 s3 s4 s5 ex ey fun h' z1 z2 z3 z4 z5 z6 kp => ?_
      refine k _ _ h' s.toks (hr i _ _ ex ey) ⟨_, z5, rfl, _, rfl⟩ ⟨kp _ _ D.TIz D.TITO D.TIi1 D.TIi2 s1, z3, z4, s4.at fun o => kp _ o D.l1z D.l1TO D.l1i1 D.l1i2, s5.at fun o => kp _ o D.l2z D.l2TO D.l2i1 D.l2i2, ⟨_, _, z2⟩, .inr ⟨_, false, _, z1, z5, Nat.ne_of_gt oldz, Nat.ne_of_gt o1, Nat.ne_of_gt o2, Nat.ne_of_gt hdl⟩⟩ fun c o hc q => ?_
      simp only [List.mem_cons, List.not_mem_nil, or_false, not_or] at hc
      exact kp c o hc.1 hc.2.2.1 hc.2.2.2.1 hc.2.2.2.2 q
    · refine wpAny_pyNext_zip_item_held D e eT s1 s2 s3 s4 s5 ex ey fun h' z1 z3 z4 z5 z6 kp => ?_
      refine k _ _ h' s.toks (hr i _ _ ex ey) ⟨_, z5, rfl, _, rfl⟩ ⟨kp _ _ D.TIz D.TIi1 D.TIi2 s1, z3, z4, s4.at fun o => kp _ o D.l1z D.l1i1 D.l1i2, s5.at fun o => kp _ o D.l2z D.l2i1 D.l2i2, ⟨a, b, kp _ _ D.TOz D.TOi1 D.TOi2 s6⟩, .inr ⟨T, true, o, z1, kp _ _ r1 r2 r3 eT, r1, r2, r3, r4⟩⟩ fun c o hc q => ?_
      simp only [List.mem_cons, List.not_mem_nil, or_false, not_or] at hc
      exact kp c o hc.1 hc.2.2.2.1 hc.2.2.2.2 q
  · intro A s Q E hh st k
    obtain ⟨s1, s2, s3, s4, s5, ⟨a, b, s6⟩, s7⟩ := st
    have fin : xs[min xs.size ys.size]? = none ∨ ys[min xs.size ys.size]? = none := by
      by_cases q : xs.size ≤ ys.size
      · exact .inl (Array.getElem?_eq_none (by omega))
      · exact .inr (Array.getElem?_eq_none (by omega))
    rcases s7 with e | ⟨T, g, o, e, eT, r1, r2, r3, r4⟩
    · refine wpAny_pyNext_zip_end hh D e s1 s6 s2 s3 s4 s5 fin fun h' kp => k h' s.toks fun c o hc q => ?_
      simp only [List.mem_cons, List.not_mem_nil, or_false, not_or] at hc
      exact kp c o hc.1 hc.2.2.1 hc.2.2.2.1 hc.2.2.2.2 q
    · refine wpAny_pyNext_zip_end_held hh D e eT s1 s2 s3 s4 s5 fin fun h' kp => k h' s.toks fun c o hc q => ?_
      simp only [List.mem_cons, List.not_mem_nil, or_false, not_or] at hc
      exact kp c o hc.1 hc.2.2.2.1 hc.2.2.2.2 q
/-- enumerate of a list, likewise -/
def ESt (d e it l : Addr) (xs : Array Value) (i : Nat) (h : Heap) : Prop :=
  h.IsListIter it l i ∧ h.IsList l xs ∧ ((∃ old, IsEnum h e it i old) ∨ ∃ old T g o, IsEnumHeld h e it i old T g ∧ h.get? T = some o ∧ T ≠ e ∧ T ≠ it ∧ T ≠ d)
theorem est_type {d e it l : Addr} {xs : Array Value} {i : Nat} {h : Heap} (st : ESt d e it l xs i h) : ∃ o, h.get? e = some o ∧ o.cls = .type "enumerate" := by
  obtain ⟨_, _, ⟨old, q⟩ | ⟨old, T, g, o, q, _⟩⟩ := st
  · exact ⟨_, q, rfl⟩
  · exact ⟨_, q, rfl⟩
theorem nsrc_enum {P : Program} {w : World} {d e it l : Addr} (n1 : e ≠ it) (n2 : l ≠ e) (n3 : l ≠ it) (hd : d ∉ [e, it, l]) (xs : Array Value) {Rel : Nat → Value → Value → Prop} (hr : ∀ i t v, xs[i]? = some v → Rel i (.int i t) v) :
    NSrc P w e d [e, it] xs.size Rel (ESt d e it l xs) := by
  simp only [List.mem_cons, List.not_mem_nil, or_false, not_or] at hd
  obtain ⟨d1, d2, d3⟩ := hd
  constructor
  · intro i h h' ⟨s1, s2, s3⟩ kp
    refine ⟨s1.at fun o => kp _ o (Ne.symm d2), s2.at fun o => kp _ o (Ne.symm d3), ?_⟩
    exact s3.imp (fun ⟨old, q⟩ => ⟨old, kp _ _ (Ne.symm d1) q⟩) fun ⟨old, T, g, o, q, eT, r1, r2, r3⟩ => ⟨old, T, g, o, kp _ _ (Ne.symm d1) q, kp _ _ r3 eT, r1, r2, r3⟩
  · intro i h st b hb
    obtain ⟨oz, ez, _⟩ := est_type st
    obtain ⟨⟨_, s1, _⟩, s2, s3⟩ := st
    simp only [List.mem_cons, List.not_mem_nil, or_false] at hb
    rcases hb with rfl | rfl
    · exact Heap.lt_size ez
    · exact Heap.lt_size s1
  · intro A i s Q E hi st hdl k
    have olde := (est_type st).elim fun o e => Heap.lt_size e.1
    obtain ⟨s1, s2, s3⟩ := st
    have ex := Array.getElem?_eq_getElem hi
    have o1 : it < s.heap.objs.size := s1.elim fun o e => Heap.lt_size e.1
    have cast : ((i + 1 : Nat) : Int) = (i : Int) + 1 := rfl
    rcases s3 with ⟨old, q⟩ | ⟨old, T, g, o, q, eT, r1, r2, r3⟩
    · refine wpAny_pyNext_enum_item q s1 s2 ex n1 fun h' z1 z2 z3 z4 kp => ?_
      refine k _ _ h' (s.toks + 1) (hr i _ _ ex) ⟨_, z3, rfl, _, rfl⟩ ⟨z2, s2.at fun o => kp _ o n2 n3, .inr ⟨_, _, false, _, z1, z3, Nat.ne_of_gt olde, Nat.ne_of_gt o1, Nat.ne_of_gt hdl⟩⟩ fun c o hc q => ?_
      simp only [List.mem_cons, List.not_mem_nil, or_false, not_or] at hc
      exact kp c o hc.1 hc.2 q
    · refine wpAny_pyNext_enum_item_held q eT r1 r2 s1 s2 ex n1 fun h' z1 z2 z3 z4 kp => ?_
      refine k _ _ h' (s.toks + 1) (hr i _ _ ex) ⟨_, z3, rfl, _, rfl⟩ ⟨z2, s2.at fun o => kp _ o n2 n3, .inr ⟨_, T, true, o, z1, kp _ _ r1 r2 eT, r1, r2, r3⟩⟩ fun c o hc q => ?_
      simp only [List.mem_cons, List.not_mem_nil, or_false, not_or] at hc
      exact kp c o hc.1 hc.2 q
  · intro A s Q E hh st k
    obtain ⟨s1, s2, s3⟩ := st
    have fin : xs[xs.size]? = none := Array.getElem?_eq_none (Nat.le_refl _)
    have use : ∀ h' : Heap, Heap.ExtBut it s.heap h' → Q none { s with heap := h' } := fun h' kp => k h' s.toks fun c o hc q => by
      simp only [List.mem_cons, List.not_mem_nil, or_false, not_or] at hc
      exact kp c o hc.2 q
    rcases s3 with ⟨old, q⟩ | ⟨old, T, g, o, q, eT, r1, r2, r3⟩
    · exact wpAny_pyNext_enum_end hh q s1 s2 fin use
    · exact wpAny_pyNext_enum_end_held hh q s1 s2 fin use
end DL

set_option Elab.async false
set_option linter.all false
set_option autoImplicit false
set_option maxRecDepth 100000
namespace DL
open PySem PySem.Spec PyProof.Rows L2 HT
section
variable {X : Cx}
abbrev TN := L2.St → Hp → (Nat → (Nat → V × V) → Hp → Prop) → Prop
/-- an expression that makes a giver of pairs -/
def PNs (X : Cx) (e : Expr) (ts : TN) : Prop := ∀ (pins : List (Addr × Obj)) (s : Shared) (σ : L2.St) (H : Hp) (Q : Nat → (Nat → V × V) → Hp → Prop), Inv X pins σ H s → ts σ H Q →
  wpAny (model X.prog X.w) X.A (eval e X.env) (fun x s' => ∃ T it fp St n f H', (T = "zip" ∨ T = "enumerate") ∧ x = .ref it ∧ NSrc X.prog X.w it s'.heap.objs.size fp n (fun i k v => RelV (f i).1 k ∧ RelV (f i).2 v) St ∧ (∀ h, St 0 h → ∃ o, h.get? it = some o ∧ o.cls = .type T) ∧
    (∀ (A : Around) (s : Shared) (Q : Value → Shared → Prop) (E : Value → Shared → Prop), St 0 s.heap → Q (.ref it) s → wpAny (model X.prog X.w) A (pyIter (.ref it)) Q E s) ∧ Inv X pins σ H' s' ∧ (∀ b ∈ fp, FpOk X pins H' b) ∧ St 0 s'.heap ∧ Q n f H') X.xe s
def tLsP (ts : TN) : TE := fun σ H Q => ts σ H fun n f H1 => n ≤ 100000 ∧ ∀ d H' ps, H1 d = none → (∀ b o, H1 b = some o → H' b = some o) → ps.length = n → Prs f H1 H' ps → H' d = some (.lst (ps.map V.ref)) → Q (.ref d) H'
theorem pe_listPs {e : Expr} {ts : TN} {p pos : Pos} (hc : X.calm = true) (hg : Gl X "list") (hm : X.mg "list" = none) (he : PNs X e ts) (na : starEach [e] X.env = (false, eval e X.env) :: starEach [] X.env := by rfl) : PE X (.Call (.Name "list" p) [e] [] pos) (tLsP ts) := by
  refine ⟨fun pins s σ H Q Iv h => ?_⟩
  refine Call_ (ld_blt Iv hg hm boot_list (PyProof.Rows.callWith_type1 (args_cons (thn (he pins s σ H _ Iv h) fun x s1 ⟨T, it, fp, S0, n, f, H1, hT, ex, S, ty, iter, I1, hf, st, hn, q⟩ => args_nil ?_) na) na))
  subst ex
  exact call_list_src hT (I1.ok.hd hc) S hn ty iter I1 hf st fun s' H' ps i1 i2 i3 i4 i5 i6 => ⟨.ref _, H', i1, rfl, q _ H' ps i5 i2 i3 i4 i6⟩
def zpF (xs ys : List V) (i : Nat) : V × V := (xs[i]?.getD (.int 0), ys[i]?.getD (.int 0))
theorem vals_at {xs : List V} {its : List Value} {i : Nat} {u : Value} (h : Vals xs its) (e : its.toArray[i]? = some u) : ∃ x, xs[i]? = some x ∧ RelV x u := by
  have e' : its[i]? = some u := by simpa using e
  have hi : i < its.length := (List.getElem?_eq_some_iff.mp e').1
  have hx : i < xs.length := by rw [h.length]; exact hi
  obtain ⟨u', h1, h2⟩ := h.get (List.getElem?_eq_getElem hx)
  rw [e'] at h1
  cases h1
  exact ⟨_, List.getElem?_eq_getElem hx, h2⟩
def tZpN (K : PySem.W.Frag) (ta : TA) : TN := fun σ H Q => ta σ H fun vs H1 => ∃ a b xs ys, vs = [.ref a, .ref b] ∧ SqL K H1 a xs ∧ SqL K H1 b ys ∧ Q (min xs.length ys.length) (zpF xs ys) H1
theorem pn_zip {e e2 : Expr} {ta : TA} {p pos : Pos} (hg : Gl X "zip") (hm : X.mg "zip" = none) (ha : PA X [e, e2] ta) (hs : starEach [e, e2] X.env = (false, eval e X.env) :: starEach [e2] X.env := by rfl) (hpl : (backTo pos (starEach [e2] X.env)).any (·.1) = false := by rfl) :
    PNs X (.Call (.Name "zip" p) [e, e2] [] pos) (tZpN X.K ta) := by
  intro pins s σ H Q Iv h
  refine Call_ (ld_blt Iv hg hm PyProof.Rows.boot_zip (PyProof.Rows.callWith_type1 (thn (ha.run pos pins s σ H _ Iv h) fun us s1 ⟨vs, H1, I1, r1, q1⟩ => ?_) hs hpl))
  obtain ⟨a, b, xs, ys, ex, hqx, hqy, q⟩ := q1
  subst ex
  cases r1 with
  | cons r rr =>
    cases rr with
    | cons r' rr =>
      cases rr
      cases r
      cases r'
      obtain ⟨its, rv, p1, _⟩ := I1.list hqx
      obtain ⟨jts, rw', p2, _⟩ := I1.list hqy
      have la : a < s1.heap.objs.size := p1.lt
      have lb : b < s1.heap.objs.size := p2.lt
      refine call_zip_2 p1.isList p2.isList fun h' z1 z2 z3 z4 z5 z6 kp => ?_
      have I2 : Inv X pins σ H1 { s1 with heap := h' } := I1.kept (t' := s1.toks) kp
      have nn : min its.toArray.size jts.toArray.size = min xs.length ys.length := by
        rw [List.size_toArray, List.size_toArray, rv.length, rw'.length]
      have src := nsrc_zip (P := X.prog) (w := X.w) (d := h'.objs.size) (PySem.W.ktu_apart s1.heap.objs.size a b la lb) (fun hm => by
        rw [z6] at hm
        simp only [List.mem_cons, List.not_mem_nil, or_false] at hm
        have ha' : (a : Nat) < s1.heap.objs.size := la
        have hb' : (b : Nat) < s1.heap.objs.size := lb
        have key : ∀ N x y : Nat, x < N → y < N → ¬ (N + 5 = N + 4 ∨ N + 5 = N + 2 ∨ N + 5 = N + 3 ∨ N + 5 = N ∨ N + 5 = N + 1 ∨ N + 5 = x ∨ N + 5 = y) := fun N x y _ _ => by omega
        exact key _ _ _ ha' hb' hm) its.toArray jts.toArray (Rel := fun i k v => RelV (zpF xs ys i).1 k ∧ RelV (zpF xs ys i).2 v) (fun i k v e1 e2 => by
        obtain ⟨x, hx, rx⟩ := vals_at rv e1
        obtain ⟨y, hy, ry⟩ := vals_at rw' e2
        unfold zpF
        rw [hx, hy]
        exact ⟨rx, ry⟩)
      rw [nn] at src
      refine ⟨"zip", _, _, _, _, _, H1, .inl rfl, rfl, src, fun h st => zst_type st, fun A s Q E st k => ?_, I2, fun c hcm => ?_, ⟨z2, z4, z5, p1.isList.at fun o => kp _ o, p2.isList.at fun o => kp _ o, ⟨_, _, z3⟩, .inl z1⟩, q⟩
      · obtain ⟨_, _, _, _, _, _, e | ⟨T, g, o, e, _⟩⟩ := st
        · exact wpAny_pyIter_zip e k
        · have hT : s.TypeIs (.ref _) "zip" := ⟨_, e, rfl⟩
          refine wpAny_pyIter_slot hT F.slot_zip_iter (wpAny_call_entry F.slot_zip_iter hT F.entry_zip_iter ?_ (F.args_zip_iter_1 _))
          show wpAny _ _ (ret (.ref _)) _ _ s
          exact wpAny_pure ⟨_, rfl, "zip", _, hT, F.slot_zip_next.lookup, k⟩
      · have hle : s1.heap.objs.size ≤ c := by
          simp only [List.mem_cons, List.not_mem_nil, or_false] at hcm
          have key : ∀ N x : Nat, (x = N + 4 ∨ x = N + 2 ∨ x = N + 3 ∨ x = N ∨ x = N + 1) → N ≤ x := fun N x _ => by omega
          exact key _ _ hcm
        exact I1.fpOk hle (I1.hok.fresh hle)
def enF (xs : List V) (i : Nat) : V × V := (.int i, xs[i]?.getD (.int 0))
def tEnN (K : PySem.W.Frag) (ta : TA) : TN := fun σ H Q => ta σ H fun vs H1 => ∃ a xs, vs = [.ref a] ∧ SqL K H1 a xs ∧ Q xs.length (enF xs) H1
theorem pn_enum {e : Expr} {ta : TA} {p pos : Pos} (hg : Gl X "enumerate") (hm : X.mg "enumerate" = none) (ha : PA X [e] ta) (hs : starEach [e] X.env = (false, eval e X.env) :: starEach [] X.env := by rfl) (hpl : (backTo pos (starEach [] X.env)).any (·.1) = false := by rfl) :
    PNs X (.Call (.Name "enumerate" p) [e] [] pos) (tEnN X.K ta) := by
  intro pins s σ H Q Iv h
  refine Call_ (ld_blt Iv hg hm boot_enumerate (PyProof.Rows.callWith_type1 (thn (ha.run pos pins s σ H _ Iv h) fun us s1 ⟨vs, H1, I1, r1, q1⟩ => ?_) hs hpl))
  obtain ⟨a, xs, ex, hqx, q⟩ := q1
  subst ex
  cases r1 with
  | cons r rr =>
    cases rr
    cases r
    obtain ⟨its, rv, p1, _⟩ := I1.list hqx
    have la : a < s1.heap.objs.size := p1.lt
    refine call_enumerate_list p1.isList fun h' z1 z2 z3 kp => ?_
    have I2 : Inv X pins σ H1 { s1 with heap := h' } := I1.kept (t' := s1.toks) kp
    have nn : its.toArray.size = xs.length := by
      rw [List.size_toArray, rv.length]
    have src := nsrc_enum (P := X.prog) (w := X.w) (d := h'.objs.size) (e := s1.heap.objs.size + 1) (it := s1.heap.objs.size) (l := a) (Nat.succ_ne_self _) (Nat.ne_of_lt (Nat.lt_succ_of_lt la)) (Nat.ne_of_lt la) (fun hm => by
      rw [z3] at hm
      simp only [List.mem_cons, List.not_mem_nil, or_false] at hm
      have ha' : (a : Nat) < s1.heap.objs.size := la
      have key : ∀ N x : Nat, x < N → ¬ (N + 2 = N + 1 ∨ N + 2 = N ∨ N + 2 = x) := fun N x _ => by omega
      exact key _ _ ha' hm) its.toArray (Rel := fun i k v => RelV (enF xs i).1 k ∧ RelV (enF xs i).2 v) (fun i t v e1 => by
      obtain ⟨x, hx, rx⟩ := vals_at rv e1
      unfold enF
      rw [hx]
      exact ⟨⟨t, rfl⟩, rx⟩)
    rw [nn] at src
    refine ⟨"enumerate", _, _, _, _, _, H1, .inr rfl, rfl, src, fun h st => est_type st, fun A s Q E st k => ?_, I2, fun c hcm => ?_, ⟨z2, p1.isList.at fun o => kp _ o, .inl ⟨_, z1⟩⟩, q⟩
    · obtain ⟨_, _, ⟨old, e⟩ | ⟨old, T, g, o, e, _⟩⟩ := st
      · exact wpAny_pyIter_enum e k
      · have hT : s.TypeIs (.ref _) "enumerate" := ⟨_, e, rfl⟩
        refine wpAny_pyIter_slot hT F.slot_enumerate_iter (wpAny_call_entry F.slot_enumerate_iter hT F.entry_enumerate_iter ?_ (F.args_enumerate_iter_1 _))
        show wpAny _ _ (ret (.ref _)) _ _ s
        exact wpAny_pure ⟨_, rfl, "enumerate", _, hT, F.slot_enumerate_next.lookup, k⟩
    · have hle : s1.heap.objs.size ≤ c := by
        simp only [List.mem_cons, List.not_mem_nil, or_false] at hcm
        have key : ∀ N x : Nat, (x = N + 1 ∨ x = N) → N ≤ x := fun N x _ => by omega
        exact key _ _ hcm
      exact I1.fpOk hle (I1.hok.fresh hle)
end
end DL

set_option Elab.async false
set_option linter.all false
set_option autoImplicit false
set_option maxRecDepth 100000
namespace DL
open PySem PySem.Spec PyProof.Rows L2 HT
theorem dpa_pt {K : PySem.W.Frag} {G : Hp} : ∀ {vs : List V} {ds : List PyData}, vs.length = ds.length → (∀ (j : Nat) v d, vs[j]? = some v → ds[j]? = some d → Dp K G v d) → DpAll K G vs ds
  | [], [], _, _ => .nil
  | v :: vs, d :: ds, hl, h => .cons (h 0 v d rfl rfl) (dpa_pt (by simpa using hl) fun j v' d' h1 h2 => h (j + 1) v' d' (by simpa using h1) (by simpa using h2))
  | [], _ :: _, hl, _ => by simp at hl
  | _ :: _, [], hl, _ => by simp at hl
open Classical in
/-- what stands still, and the new pairs -/
noncomputable def gPrs (G H : Hp) (ps : List Addr) : Hp := fun b => if b ∈ ps then H b else G b
theorem gPrs_in {G H : Hp} {ps : List Addr} {b : Addr} (h : b ∈ ps) : gPrs G H ps b = H b := if_pos h
theorem gPrs_out {G H : Hp} {ps : List Addr} {b : Addr} (h : b ∉ ps) : gPrs G H ps b = G b := if_neg h
theorem grow_prs {bo : Option Bo} {G H H' : Hp} {ps : List Addr} {f : Nat → V × V} (s : Same G H) (k : ∀ b o, H b = some o → H' b = some o) (hp : Prs f H H' ps) : Grow bo G H (gPrs G H' ps) H' := by
  have no : ∀ b, b ∈ ps → H b = none := fun b hb => by
    obtain ⟨j, hj⟩ := List.getElem?_of_mem hb
    exact (hp j b hj).1
  refine ⟨fun b o e => ?_, fun b o e => ?_, fun b h0 h1 => ?_, fun b o _ e => k b o e⟩
  · by_cases hb : b ∈ ps
    · have := s b o e
      rw [no b hb] at this
      cases this
    · rw [gPrs_out hb]
      exact e
  · by_cases hb : b ∈ ps
    · rw [gPrs_in hb] at e
      exact e
    · rw [gPrs_out hb] at e
      exact k b o (s b o e)
  · by_cases hb : b ∈ ps
    · exact absurd (no b hb) h0
    · rw [gPrs_out hb]
      exact h1
section
variable {X : Cx} {S : Type} [MSt S] {K : PySem.W.Frag} {a b : Expr} {ta tb : TE} {da db : DEt S} {p pos p' pos' : Pos}
/-- the list of new pairs, read as data -/
theorem read_prs {bo : Option Bo} {G H H' : Hp} {ps : List Addr} {f : Nat → V × V} {d : Addr} {ds : List PyData} {n : S} (s : Same G H) (bx : BoxO K G H bo n) (hd : H d = none) (k : ∀ b o, H b = some o → H' b = some o) (hl : ps.length = ds.length) (hp : Prs f H H' ps) (hd' : H' d = some (.lst (ps.map V.ref)))
    (hds : ∀ (j : Nat) z, ds[j]? = some z → ∃ x y, z = .tuple [x, y] ∧ Dp K G (f j).1 x ∧ Dp K G (f j).2 y) :
    Grow bo G H (gPrs G H' ps) H' ∧ BoxO K (gPrs G H' ps) H' bo n ∧ gPrs G H' ps d = none ∧ DpAll K (gPrs G H' ps) (ps.map V.ref) ds := by
  have g : Grow none G H (gPrs G H' ps) H' := grow_prs s k hp
  refine ⟨g.any, bx.grow g, ?_, dpa_pt (by rw [List.length_map]; exact hl) fun j v z hv hz => ?_⟩
  · rw [gPrs_out fun hm => ?_]
    · exact s.free hd
    · obtain ⟨j, hj⟩ := List.getElem?_of_mem hm
      have := (hp j d hj).2
      rw [hd'] at this
      cases this
  · rw [List.getElem?_map] at hv
    cases hq : ps[j]? with
    | none =>
      rw [hq] at hv
      cases hv
    | some q =>
      rw [hq] at hv
      cases hv
      obtain ⟨x, y, rfl, hx, hy⟩ := hds j z hz
      have hm : q ∈ ps := List.mem_of_getElem? hq
      have e : gPrs G H' ps q = some (.tup [(f j).1, (f j).2]) := by
        rw [gPrs_in hm]
        exact (hp j q hq).2
      exact .tup (.inl (.inl e)) (.cons (dp_mono g.gg hx) (.cons (dp_mono g.gg hy) .nil))
omit [MSt S] in
/-- list(zip(a, b)) of lists -/
def dLsZip (da db : DEt S) : DFt S := fun ε n P => da ε n fun x n1 => db ε n1 fun y n2 => match x, y with
  | .list xs, .list ys => min xs.length ys.length ≤ 100000 ∧ P (List.zipWith (fun a b => PyData.tuple [a, b]) xs ys) n2
  | _, _ => False
theorem df_listZip (hc : X.calm = true) (hg : Gl X "list") (hm : X.mg "list" = none) (hg2 : Gl X "zip") (hm2 : X.mg "zip" = none) (ha : DE K X a ta da) (hb : DE K X b tb db) (hs : starEach [a, b] X.env = (false, eval a X.env) :: starEach [b] X.env := by rfl) (hs2 : starEach [b] X.env = (false, eval b X.env) :: starEach [] X.env := by rfl) (hpl : (backTo pos' (starEach [b] X.env)).any (·.1) = false := by rfl)
    (nb : starEach [.Call (.Name "zip" p') [a, b] [] pos'] X.env = (false, eval (.Call (.Name "zip" p') [a, b] [] pos') X.env) :: starEach [] X.env := by rfl) (hK : X.K = K := by rfl) :
    DF K X (.Call (.Name "list" p) [.Call (.Name "zip" p') [a, b] [] pos'] [] pos) (tLsP (tZpN K (tCons ta (tCons tb tNil)))) (dLsZip da db) := by
  subst hK
  refine ⟨pe_listPs hc hg hm (pn_zip hg2 hm2 (pa_cons ha.pe (pa_cons hb.pe pa_nil hs2) hs) hs hpl) nb, fun bo G0 H0 σ H G ε n P Q R hp k => ?_⟩
  refine ha.se bo G0 H0 σ H G ε n _ _ R hp fun v G1 H1 d n1 g1 b1 p1 h1 => hb.se bo G0 H0 σ H1 G1 ε n1 _ _ (R.grow g1 b1) h1 fun w G2 H2 d2 n2 g2 b2 p2 h2 => ?_
  cases p1 with
  | @lst l xs ds s ha' =>
    cases p2 with
    | @lst l' ys es s' hb' =>
      have sa : G2 l = some (.lst xs) := g2.gg _ _ s
      refine ⟨l, l', xs, ys, rfl, .inl (.inl (g2.gh _ _ sa)), .inl (.inl (g2.gh _ _ s')), by rw [dpa_len ha', dpa_len hb']; exact h2.1, fun q H' ps hq kp hl hps hq' => ?_⟩
      obtain ⟨r1, r2, r3, r4⟩ := read_prs (bo := bo) (ds := List.zipWith (fun a b => PyData.tuple [a, b]) ds es) g2.gh b2 hq kp (by rw [hl, List.length_zipWith, dpa_len ha', dpa_len hb']) hps hq' fun j z hz => by
        obtain ⟨x, y, e1, e2, rfl⟩ := zip_get _ hz
        obtain ⟨vx, f1, f1'⟩ := dpa_get ha' e1
        obtain ⟨vy, f2, f2'⟩ := dpa_get hb' e2
        refine ⟨x, y, rfl, ?_, ?_⟩
        · show Dp X.K G2 (xs[j]?.getD _) x
          rw [f1]
          exact dp_mono g2.gg f1'
        · show Dp X.K G2 (ys[j]?.getD _) y
          rw [f2]
          exact f2'
      exact k q _ _ H' _ n2 ((g1.trans b1 g2).trans b2 r1) r2 ((g1.trans b1 g2).back b2 hq) r3 hq' r4 h2.2
    | _ => exact h2.elim
  | _ => cases p2 <;> exact h2.elim
omit [MSt S] in
/-- list(enumerate(a)) of a list -/
def dLsEnum (da : DEt S) : DFt S := fun ε n P => da ε n fun x n1 => match x with
  | .list xs => xs.length ≤ 100000 ∧ P (xs.zipIdx.map fun q => PyData.tuple [.int (q.2 : Int), q.1]) n1
  | _ => False
theorem df_listEnum (hc : X.calm = true) (hg : Gl X "list") (hm : X.mg "list" = none) (hg2 : Gl X "enumerate") (hm2 : X.mg "enumerate" = none) (ha : DE K X a ta da) (hs : starEach [a] X.env = (false, eval a X.env) :: starEach [] X.env := by rfl) (hpl : (backTo pos' (starEach [] X.env)).any (·.1) = false := by rfl)
    (nb : starEach [.Call (.Name "enumerate" p') [a] [] pos'] X.env = (false, eval (.Call (.Name "enumerate" p') [a] [] pos') X.env) :: starEach [] X.env := by rfl) (hK : X.K = K := by rfl) :
    DF K X (.Call (.Name "list" p) [.Call (.Name "enumerate" p') [a] [] pos'] [] pos) (tLsP (tEnN K (tCons ta tNil))) (dLsEnum da) := by
  subst hK
  refine ⟨pe_listPs hc hg hm (pn_enum hg2 hm2 (pa_cons ha.pe pa_nil hs) hs hpl) nb, fun bo G0 H0 σ H G ε n P Q R hp k => ?_⟩
  refine ha.se bo G0 H0 σ H G ε n _ _ R hp fun v G1 H1 d n1 g1 b1 p1 h1 => ?_
  cases p1 with
  | @lst l xs ds s ha' =>
    refine ⟨l, xs, rfl, .inl (.inl (g1.gh _ _ s)), by rw [dpa_len ha']; exact h1.1, fun q H' ps hq kp hl hps hq' => ?_⟩
    obtain ⟨r1, r2, r3, r4⟩ := read_prs (bo := bo) (ds := ds.zipIdx.map fun q => PyData.tuple [.int (q.2 : Int), q.1]) g1.gh b1 hq kp (by rw [hl, List.length_map, List.length_zipIdx, dpa_len ha']) hps hq' fun j z hz => by
      rw [List.getElem?_map, List.getElem?_zipIdx] at hz
      cases hd : ds[j]? with
      | none =>
        rw [hd] at hz
        cases hz
      | some y =>
        rw [hd] at hz
        cases hz
        obtain ⟨vx, f1, f1'⟩ := dpa_get ha' hd
        refine ⟨_, _, rfl, ?_, ?_⟩
        · show Dp X.K G1 (.int (j : Int)) (.int ((0 + j : Nat) : Int))
          rw [Nat.zero_add]
          exact .int _
        · show Dp X.K G1 (xs[j]?.getD _) y
          rw [f1]
          exact f1'
    exact k q _ _ H' _ n1 (g1.trans b1 r1) r2 (g1.back b1 hq) r3 hq' r4 h1.2
  | _ => exact h1.elim
end
end DL

set_option Elab.async false
set_option linter.all false
set_option autoImplicit false
set_option maxRecDepth 100000
namespace DL
open PySem PySem.Spec PyProof.Rows L2 HT
section
variable {X : Cx} {S : Type} [MSt S] {K : PySem.W.Frag} {e : Expr} {te : TE} {de : DEt S} {dq : DQt S} {p pos : Pos}
/-! ### max, min of a list of ints -/
def fMaxL : FQ := fun k ds C => k = false ∧ ∃ ns m, inD ds = some ns ∧ m ∈ ns ∧ (∀ y ∈ ns, y ≤ m) ∧ C (.int m)
theorem de_maxL (hcal : X.calm = true) (hg : Gl X "max") (hm : X.mg "max" = none) (h : DQ K X e te dq) (he : starEach (e :: []) X.env = (false, eval e X.env) :: starEach [] X.env := by rfl) (hpl : (backTo pos (starEach [] X.env)).any (·.1) = false := by rfl) (hK : X.K = K := by rfl) :
    DE K X (.Call (.Name "max" p) [e] [] pos) (tCB (rMax K) (tCons te tNil)) (dCbQ fMaxL dq) := by
  subst hK
  exact de_cbq (cr_max hcal) (fun G H a vs k ds C Q s sq ha h kk => by
      obtain ⟨rfl, bs, m, e1, hm1, hm2, h⟩ := h
      have ev := in_map ha e1
      subst ev
      refine ⟨a, bs, rfl, .inl (.inl sq), List.length_pos_of_mem hm1, fun m' i1 i2 => ?_⟩
      have : m' = m := Int.le_antisymm (hm2 m' i1) (i2 m hm1)
      subst this
      exact kk _ G H _ (Grow.refl s) (.int _) h) hg hm boot_max h (by decide) (by decide) he hpl
def fMinL : FQ := fun k ds C => k = false ∧ ∃ ns m, inD ds = some ns ∧ m ∈ ns ∧ (∀ y ∈ ns, m ≤ y) ∧ C (.int m)
theorem de_minL (hcal : X.calm = true) (hg : Gl X "min") (hm : X.mg "min" = none) (h : DQ K X e te dq) (he : starEach (e :: []) X.env = (false, eval e X.env) :: starEach [] X.env := by rfl) (hpl : (backTo pos (starEach [] X.env)).any (·.1) = false := by rfl) (hK : X.K = K := by rfl) :
    DE K X (.Call (.Name "min" p) [e] [] pos) (tCB (rMin K) (tCons te tNil)) (dCbQ fMinL dq) := by
  subst hK
  exact de_cbq (cr_min hcal) (fun G H a vs k ds C Q s sq ha h kk => by
      obtain ⟨rfl, bs, m, e1, hm1, hm2, h⟩ := h
      have ev := in_map ha e1
      subst ev
      refine ⟨a, bs, rfl, .inl (.inl sq), List.length_pos_of_mem hm1, fun m' i1 i2 => ?_⟩
      have : m' = m := Int.le_antisymm (i2 m hm1) (hm2 m' i1)
      subst this
      exact kk _ G H _ (Grow.refl s) (.int _) h) hg hm boot_min h (by decide) (by decide) he hpl
/-! ### x += e, x -= e of ints -/
omit [MSt S] in
def dAugI (i : Nat) (f : Int → Int → Int) (de : DEt S) : DSt S := fun D ε n => ∃ x, ε[i]? = some (.im (.int x)) ∧ de ε n fun d n1 => match d with
  | .int y => D.nx (ε.set i (.im (.int (f x y)))) n1
  | _ => False
theorem ss_augI (i : Nat) (f : Int → Int → Int) (h : SE K te de) : SS K (tAug i te (ipI f)) (dAugI i f de) := fun bo G0 H0 σ H G ε n D DD r l q => by
  obtain ⟨x, e1, q⟩ := q
  obtain ⟨v, e2, e3⟩ := r.im i _ e1
  cases e3 with
  | int =>
    refine ⟨_, e2, h bo G0 H0 σ H G ε n _ _ r q fun u G1 H1 d n1 g1 b1 p1 h1 => ?_⟩
    cases p1 with
    | int y => exact ⟨x, y, rfl, rfl, l.nx _ H1 G1 _ n1 ((r.grow g1 b1).setIm (.int _) i) h1⟩
    | _ => exact h1.elim
theorem ds_addI (i : Nat) {x : Str} {pos' : Pos} (hN : X.N.Nodup) (hi : X.N[i]? = some x) (hx : Loc X.env.scope x) (h : DE K X e te de) (hf : X.fn x = true ∨ X.env.scope.names.lookup x = some .local := by first | exact .inl rfl | exact .inr rfl | assumption) (hK : X.K = K := by rfl) :
    DS K X (.AugAssign (.Name x pos') .Add e pos) (tAug i te (ipI fun i j => i + j)) (dAugI i (fun i j => i + j) de) := by
  subst hK
  exact ⟨ps_aug hN hi hx h.pe ip_add hf, ss_augI i _ h.se⟩
theorem ds_subI (i : Nat) {x : Str} {pos' : Pos} (hN : X.N.Nodup) (hi : X.N[i]? = some x) (hx : Loc X.env.scope x) (h : DE K X e te de) (hf : X.fn x = true ∨ X.env.scope.names.lookup x = some .local := by first | exact .inl rfl | exact .inr rfl | assumption) (hK : X.K = K := by rfl) :
    DS K X (.AugAssign (.Name x pos') .Sub e pos) (tAug i te (ipI fun i j => i - j)) (dAugI i (fun i j => i - j) de) := by
  subst hK
  exact ⟨ps_aug hN hi hx h.pe ip_sub hf, ss_augI i _ h.se⟩
end
end DL

set_option Elab.async false
set_option linter.all false
set_option autoImplicit false
set_option maxRecDepth 100000
namespace DL
open PySem PySem.Spec PyProof.Rows L2 HT
theorem tup_no_iadd : typeLookup (.type "tuple") (dunderI "add") = pure none := am_miss_of_fast (by decide +kernel)
section
variable {X : Cx}
/-- t += u of tuples -/
theorem ip_catA : PIp X .Add (rCatA X.K) := by
  intro pins s σ H x y v u Q Iv rx ry h
  obtain ⟨a, b, xs, ys, rfl, rfl, ha, hb, hz, q0, q1, q2⟩ := h
  cases rx
  cases ry
  obtain ⟨its, r1, p1, _⟩ := Iv.tuple ha
  obtain ⟨jts, r2, p2, _⟩ := Iv.tuple hb
  have l1 := r1.length
  have l2 := r2.length
  refine wpAny_inplaceOp_concat p1.typeIs p2.typeIs tup_no_iadd noFill_tuple_add seq_tuple_add ?_
  have ty := p1.typeIs
  obtain ⟨⟨c1, d1, t1, w1⟩, e1, f1, n1, g1⟩ := p1
  obtain ⟨⟨c2, d2, t2, w2⟩, e2, f2, n2, g2⟩ := p2
  cases f1
  cases g1
  cases f2
  cases g2
  by_cases hx : xs = []
  · have : its = [] := List.eq_nil_of_length_eq_zero (by rw [← l1, hx]; rfl)
    subst this
    exact call_meets PySem.F.slot_tuple_add ty PySem.F.entry_tuple_add (PySem.F.args_tuple_add_2 _ _) (tuple_addW0 a b _ jts.toArray n1 n2 d1 d2 w1 w2 (by simp)) ⟨e1, e2, .ref b, H, Iv, rfl, q0 hx⟩
  · have nx : its ≠ [] := fun z => hx (List.eq_nil_of_length_eq_zero (by rw [l1, z]; rfl))
    by_cases hy : ys = []
    · have : jts = [] := List.eq_nil_of_length_eq_zero (by rw [← l2, hy]; rfl)
      subst this
      exact call_meets PySem.F.slot_tuple_add ty PySem.F.entry_tuple_add (PySem.F.args_tuple_add_2 _ _) (tuple_addW1 a b its.toArray _ n1 n2 d1 d2 w1 w2 (by simpa using nx) (by simp)) ⟨e1, e2, .ref a, H, Iv, rfl, q1 hx hy⟩
    · have ny : jts ≠ [] := fun z => hy (List.eq_nil_of_length_eq_zero (by rw [l2, z]; rfl))
      refine call_meets PySem.F.slot_tuple_add ty PySem.F.entry_tuple_add (PySem.F.args_tuple_add_2 _ _) (tuple_addW2 a b its.toArray jts.toArray n1 n2 d1 d2 w1 w2 (by simpa using nx) (by simpa using ny) (by rw [List.size_toArray, List.size_toArray, ← l1, ← l2]; exact hz)) ⟨e1, e2, ?_⟩
      rw [show its.toArray ++ jts.toArray = (its ++ jts).toArray by simp]
      exact ⟨.ref s.heap.objs.size, _, Iv.laid (t' := s.toks) (o := .tup (xs ++ ys)) (fun c o q => Heap.get?_push_of_some _ q) (Nat.le_refl _) ⟨by rw [List.length_append]; exact hz, its ++ jts, r1.append r2, IsTup.new _ _⟩, rfl, q2 hx hy _ (Iv.hok.fresh (Nat.le_refl _))⟩
variable {S : Type} [MSt S] {K : PySem.W.Frag} {e : Expr} {te : TE} {de : DEt S} {pos : Pos}
omit [MSt S] in
def dAugT (i : Nat) (de : DEt S) : DSt S := fun D ε n => ∃ xs, ε[i]? = some (.im (.tuple xs)) ∧ de ε n fun d n1 => match d with
  | .tuple ys => xs.length + ys.length ≤ 100000 ∧ D.nx (ε.set i (.im (.tuple (xs ++ ys)))) n1
  | _ => False
theorem ds_addT (i : Nat) {x : Str} {pos' : Pos} (hN : X.N.Nodup) (hi : X.N[i]? = some x) (hx : Loc X.env.scope x) (h : DE K X e te de) (hf : X.fn x = true ∨ X.env.scope.names.lookup x = some .local := by first | exact .inl rfl | exact .inr rfl | assumption) (hK : X.K = K := by rfl) :
    DS K X (.AugAssign (.Name x pos') .Add e pos) (tAug i te (rCatA K)) (dAugT i de) := by
  subst hK
  refine ⟨ps_aug hN hi hx h.pe ip_catA hf, fun bo G0 H0 σ H G ε n D DD r l q => ?_⟩
  obtain ⟨xs, e1, q⟩ := q
  obtain ⟨v, e2, e3⟩ := r.im i _ e1
  cases e3 with
  | @tup a vs _ sa ha =>
    refine ⟨_, e2, h.se bo G0 H0 σ H G ε n _ _ r q fun u G1 H1 d n1 g1 b1 p1 h1 => ?_⟩
    cases p1 with
    | @tup b ws ys sb hb =>
      have ha1 := dpa_mono g1.gg ha
      have sa1 := sqt_mono g1.gg sa
      refine ⟨a, b, vs, ws, rfl, rfl, sqt_mono g1.gh sa1, sqt_mono g1.gh sb, by rw [dpa_len ha, dpa_len hb, sizeLine_eq]; have := h1.1; omega, fun z => ?_, fun z1 z2 => ?_, fun z1 z2 p hp => ?_⟩
      · subst z
        cases ha
        exact l.nx _ H1 G1 _ n1 ((r.grow g1 b1).setIm (.tup sb hb) i) h1.2
      · subst z2
        cases hb
        have h2 := h1.2
        rw [List.append_nil] at h2
        exact l.nx _ H1 G1 _ n1 ((r.grow g1 b1).setIm (.tup sa1 ha1) i) h2
      · have g2 : Grow none G1 H1 (upd G1 p (.tup (vs ++ ws))) (upd H1 p (.tup (vs ++ ws))) := Grow.into g1.gh hp
        exact l.nx _ _ (upd G1 p (.tup (vs ++ ws))) _ n1 (((r.grow g1 b1).grow g2.any (b1.grow g2)).setIm (.tup (.inl (.inl upd_same)) (dpa_mono g2.gg (dpa_cat ha1 hb))) i) h1.2
    | _ => exact h1.elim
end
end DL

set_option Elab.async false
set_option linter.all false
set_option autoImplicit false
set_option maxRecDepth 100000
namespace DL
open PySem PySem.Spec PyProof.Rows L2 HT
/-! ### zip of two, each a list or a tuple (k: a tuple) -/
def SqAt (h : Heap) (k : Bool) (l : Addr) (xs : Array Value) : Prop := match k with
  | true => h.IsTuple l xs
  | false => h.IsList l xs
def ItAt (h : Heap) (k : Bool) (it l : Addr) (i : Nat) : Prop := match k with
  | true => h.IsTupleIter it l i
  | false => h.IsListIter it l i
theorem SqAt.on {h h' : Heap} {k : Bool} {l : Addr} {xs : Array Value} (q : SqAt h k l xs) (f : ∀ o, h.get? l = some o → h'.get? l = some o) : SqAt h' k l xs := by
  cases k with
  | true => exact Heap.IsTuple.at q f
  | false => exact Heap.IsList.at q f
theorem ItAt.on {h h' : Heap} {k : Bool} {it l : Addr} {i : Nat} (q : ItAt h k it l i) (f : ∀ o, h.get? it = some o → h'.get? it = some o) : ItAt h' k it l i := by
  cases k with
  | true => exact Heap.IsTupleIter.at q f
  | false => exact Heap.IsListIter.at q f
theorem ItAt.old {h : Heap} {k : Bool} {it l : Addr} {i : Nat} (q : ItAt h k it l i) : it < h.objs.size := by
  cases k with
  | true => exact q.elim fun o e => Heap.lt_size e.1
  | false => exact q.elim fun o e => Heap.lt_size e.1
section
variable {P : Program} {w : World} {A : Around} {E : Value → Shared → Prop} {s : Shared}
theorem nx_item {k : Bool} {it l : Addr} {i : Nat} {xs : Array Value} {x : Value} {Q : Value → Shared → Prop} (q : ItAt s.heap k it l i) (ql : SqAt s.heap k l xs) (hx : xs[i]? = some x)
    (c : ∀ h', ItAt h' k it l (i + 1) → Heap.SameBut it s.heap h' → Q x { s with heap := h' }) : wpAny (model P w) A (Builtin.SmallTypes.nextOf (.ref it)) Q E s := by
  cases k with
  | true => exact RZ.nextOf_tuple_item q ql hx c
  | false => exact wpAny_nextOf_list_item q ql hx c
theorem nx_end {k : Bool} {it l : Addr} {i : Nat} {xs : Array Value} {Q : Value → Shared → Prop} (hh : A.handled = none) (q : ItAt s.heap k it l i) (ql : SqAt s.heap k l xs) (hx : xs[i]? = none)
    (c : ∀ h' e, Heap.ExtBut it s.heap h' → (∃ o, h'.get? e = some o ∧ o.cls = .type "StopIteration") → E (.ref e) { s with heap := h' }) : wpAny (model P w) A (Builtin.SmallTypes.nextOf (.ref it)) Q E s := by
  cases k with
  | true => exact RZ.nextOf_tuple_end hh q ql hx c
  | false => exact wpAny_nextOf_list_end hh q ql hx c
variable {k1 k2 : Bool} {z TI TO T i1 i2 l1 l2 : Addr} {f : Bool} {oT : Obj} {n1 n2 : Nat} {xs ys : Array Value} {x y a b : Value}
/-- the pair that is given out while the one ahead is still held -/
theorem zm_held {Q : Value → Shared → Prop} (D : ZipApart z TI TO i1 i2 l1 l2) (hz : IsZipHeld s.heap z TI TO T f) (hT : s.heap.get? T = some oT) (hI : IsPair s.heap TI (.ref i1) (.ref i2))
    (q1 : ItAt s.heap k1 i1 l1 n1) (q2 : ItAt s.heap k2 i2 l2 n2) (m1 : SqAt s.heap k1 l1 xs) (m2 : SqAt s.heap k2 l2 ys) (hx : xs[n1]? = some x) (hy : ys[n2]? = some y)
    (c : ∀ h', IsZipHeld h' z TI TO T true → ItAt h' k1 i1 l1 (n1 + 1) → ItAt h' k2 i2 l2 (n2 + 1) → IsPair h' s.heap.objs.size x y → (∀ c o, c ≠ z → c ≠ i1 → c ≠ i2 → s.heap.get? c = some o → h'.get? c = some o) → Q (.ref s.heap.objs.size) { s with heap := h' }) :
    wpAny (model P w) A (Builtin.«zip.__next__» ⟨[.ref z], []⟩) (fun u s' => ∃ v, u = .done (.ret v) ∧ Q v s') E s := by
  show wpAny _ _ (field (.ref z) 2 >>= fun _ => _) _ _ _
  refine wpAny_bind (wpAny_field hz rfl (x := Value.bool false) rfl ?_)
  show wpAny _ _ (field (.ref z) 3 >>= fun _ => _) _ _ _
  refine wpAny_bind (wpAny_field hz rfl (x := Value.ref TI) rfl (wpAny_bind (wpAny_seqItems hI rfl ?_)))
  refine wpAny_bind (m := Builtin.SmallTypes.ownedTupleIsFree (.ref z)) (wpAny_tupleHeld_zip hz hT fun g1 a1 e1 => ?_)
  simp only [if_false, Bool.false_eq_true]
  refine wpAny_bind ?_
  rw [← Array.forIn_toList]; simp only [List.forIn_nil, List.forIn_cons]
  refine wpAny_bind (wpAny_bind (wpAny_holding (wpAny_bind (m := Builtin.SmallTypes.nextOf (.ref i1)) (nx_item (s := { s with heap := g1 }) (q1.on fun o => e1.extBut _ o D.i1z) (m1.on fun o => e1.extBut _ o D.l1z) hx fun g2 a2 e2 => wpAny_pure (wpAny_pure ?_)))))
  refine wpAny_bind (wpAny_bind (wpAny_holding (wpAny_bind (m := Builtin.SmallTypes.nextOf (.ref i2)) (nx_item (s := { s with heap := g2 }) ((q2.on fun o => e1.extBut _ o D.i2z).on fun o => e2.extBut _ o D.i12.symm) ((m2.on fun o => e1.extBut _ o D.l2z).on fun o => e2.extBut _ o D.l2i1) hy fun g3 a3 e3 => wpAny_pure (wpAny_pure (wpAny_pure ?_))))))
  refine wpAny_bind (m := newTuple [x, y]) (wpAny_newTuple ?_)
  have size3 : g3.objs.size = s.heap.objs.size := e3.1.trans (e2.1.trans e1.1)
  have keep : ∀ c o, c ≠ z → c ≠ i1 → c ≠ i2 → s.heap.get? c = some o → g3.get? c = some o := fun c o r1 r2 r3 q => e3.extBut _ o r3 (e2.extBut _ o r2 (e1.extBut _ o r1 q))
  have new : IsPair (g3.push { cls := .type "tuple", data := .seq #[x, y] }) g3.objs.size x y := Heap.get?_push_size _ rfl
  refine wpAny_pure ⟨_, rfl, ?_⟩
  show Q (.ref g3.objs.size) _
  rw [size3] at new ⊢
  exact c _ (Heap.get?_push_of_some _ (e3.extBut _ _ D.i2z.symm (e2.extBut _ _ D.i1z.symm a1))) ((a2.on fun o => e3.extBut _ o D.i12).on fun o e => Heap.get?_push_of_some _ e) (a3.on fun o e => Heap.get?_push_of_some _ e) new fun c o r1 r2 r3 q => Heap.get?_push_of_some _ (keep c o r1 r2 r3 q)
theorem zm_held_end {Q : Fin → Shared → Prop} (hh : A.handled = none) (D : ZipApart z TI TO i1 i2 l1 l2) (hz : IsZipHeld s.heap z TI TO T f) (hT : s.heap.get? T = some oT) (hI : IsPair s.heap TI (.ref i1) (.ref i2))
    (q1 : ItAt s.heap k1 i1 l1 n1) (q2 : ItAt s.heap k2 i2 l2 n2) (m1 : SqAt s.heap k1 l1 xs) (m2 : SqAt s.heap k2 l2 ys) (fin : xs[n1]? = none ∨ ys[n2]? = none)
    (c : ∀ h' e, (∀ c o, c ≠ z → c ≠ i1 → c ≠ i2 → s.heap.get? c = some o → h'.get? c = some o) → (∃ o, h'.get? e = some o ∧ o.cls = .type "StopIteration") → E (.ref e) { s with heap := h' }) :
    wpAny (model P w) A (Builtin.«zip.__next__» ⟨[.ref z], []⟩) Q E s := by
  show wpAny _ _ (field (.ref z) 2 >>= fun _ => _) _ _ _
  refine wpAny_bind (wpAny_field hz rfl (x := Value.bool false) rfl ?_)
  show wpAny _ _ (field (.ref z) 3 >>= fun _ => _) _ _ _
  refine wpAny_bind (wpAny_field hz rfl (x := Value.ref TI) rfl (wpAny_bind (wpAny_seqItems hI rfl ?_)))
  refine wpAny_bind (m := Builtin.SmallTypes.ownedTupleIsFree (.ref z)) (wpAny_tupleHeld_zip hz hT fun g1 a1 e1 => ?_)
  simp only [if_false, Bool.false_eq_true]
  refine wpAny_bind ?_
  rw [← Array.forIn_toList]; simp only [List.forIn_nil, List.forIn_cons]
  refine wpAny_bind (wpAny_bind (wpAny_holding (wpAny_bind (m := Builtin.SmallTypes.nextOf (.ref i1)) ?_)))
  cases hx : xs[n1]? with
  | none => exact nx_end (s := { s with heap := g1 }) hh (q1.on fun o => e1.extBut _ o D.i1z) (m1.on fun o => e1.extBut _ o D.l1z) hx fun g2 e e2 he => c g2 e (fun c o r1 r2 _ q => e2 _ o r2 (e1.extBut _ o r1 q)) he
  | some x =>
    have hy : ys[n2]? = none := fin.resolve_left fun z => by rw [hx] at z; cases z
    refine nx_item (s := { s with heap := g1 }) (q1.on fun o => e1.extBut _ o D.i1z) (m1.on fun o => e1.extBut _ o D.l1z) hx fun g2 a2 e2 => wpAny_pure (wpAny_pure ?_)
    exact wpAny_bind (wpAny_bind (wpAny_holding (wpAny_bind (m := Builtin.SmallTypes.nextOf (.ref i2)) (nx_end (s := { s with heap := g2 }) hh ((q2.on fun o => e1.extBut _ o D.i2z).on fun o => e2.extBut _ o D.i12.symm) ((m2.on fun o => e1.extBut _ o D.l2z).on fun o => e2.extBut _ o D.l2i1) hy fun g3 e e3 he => c g3 e (fun c o r1 r2 r3 q => e3 _ o r3 (e2.extBut _ o r2 (e1.extBut _ o r1 q))) he))))
end
end DL

set_option Elab.async false
set_option linter.all false
set_option autoImplicit false
set_option maxRecDepth 100000
namespace DL
open PySem PySem.Spec PyProof.Rows L2 HT
section
variable {P : Program} {w : World} {A : Around} {E : Value → Shared → Prop} {s : Shared}
variable {k1 k2 : Bool} {z TI TO T i1 i2 l1 l2 : Addr} {f : Bool} {oT : Obj} {n1 n2 : Nat} {xs ys : Array Value} {x y a b : Value}
/-- the first pair -/
theorem zm_first {Q : Value → Shared → Prop} (D : ZipApart z TI TO i1 i2 l1 l2) (hz : IsZip s.heap z TI TO .none) (hI : IsPair s.heap TI (.ref i1) (.ref i2)) (hO : IsPair s.heap TO a b)
    (q1 : ItAt s.heap k1 i1 l1 n1) (q2 : ItAt s.heap k2 i2 l2 n2) (m1 : SqAt s.heap k1 l1 xs) (m2 : SqAt s.heap k2 l2 ys) (hx : xs[n1]? = some x) (hy : ys[n2]? = some y)
    (c : ∀ h', IsZip h' z TI TO (rawInt s.heap.objs.size) → IsPair h' TO x y → ItAt h' k1 i1 l1 (n1 + 1) → ItAt h' k2 i2 l2 (n2 + 1) → IsPair h' s.heap.objs.size x y → (∀ c o, c ≠ z → c ≠ TO → c ≠ i1 → c ≠ i2 → s.heap.get? c = some o → h'.get? c = some o) → Q (.ref s.heap.objs.size) { s with heap := h' }) :
    wpAny (model P w) A (Builtin.«zip.__next__» ⟨[.ref z], []⟩) (fun u s' => ∃ v, u = .done (.ret v) ∧ Q v s') E s := by
  show wpAny _ _ (field (.ref z) 2 >>= fun _ => _) _ _ _
  refine wpAny_bind (wpAny_field hz rfl (x := Value.bool false) rfl ?_)
  show wpAny _ _ (field (.ref z) 3 >>= fun _ => _) _ _ _
  refine wpAny_bind (wpAny_field hz rfl (x := Value.ref TI) rfl (wpAny_bind (wpAny_seqItems hI rfl ?_)))
  refine wpAny_bind (m := Builtin.SmallTypes.ownedTupleIsFree (.ref z)) ?_
  unfold Builtin.SmallTypes.ownedTupleIsFree
  refine wpAny_bind (wpAny_field hz rfl (x := Value.none) rfl (wpAny_pure ?_)); simp only [if_true]
  refine wpAny_bind (wpAny_rule (wpAny_bind (wpAny_field hz rfl (x := Value.ref TO) rfl (wpAny_bind (wpAny_setField_rec hz (by simp) fun g1 (b1 : IsZip g1 z TI TO .ellipsis) e1 => wpAny_bind ?_)))))
  simp only [List.forIn_nil, List.forIn_cons, List.zipIdx_nil, List.zipIdx_cons]
  refine wpAny_bind (wpAny_bind (wpAny_onRaise (wpAny_bind (m := Builtin.SmallTypes.nextOf (.ref i1)) (nx_item (q1.on fun o => e1.extBut _ o D.i1z) (m1.on fun o => e1.extBut _ o D.l1z) hx fun g2 a2 e2 => wpAny_pure ?_))))
  have o2 : IsPair g2 TO a b := e2.extBut _ _ D.TOi1 (e1.extBut _ _ D.TOz hO)
  refine wpAny_bind (wpAny_seqItems o2 rfl (wpAny_bind (wpAny_updateSeq_pair o2 fun g3 (o3 : IsPair g3 TO x b) e3 => wpAny_bind (wpAny_letGo (wpAny_pure ?_)))))
  refine wpAny_bind (wpAny_bind (wpAny_onRaise (wpAny_bind (m := Builtin.SmallTypes.nextOf (.ref i2)) (nx_item (((q2.on fun o => e1.extBut _ o D.i2z).on fun o => e2.extBut _ o D.i12.symm).on fun o => e3.extBut _ o D.TOi2.symm) (((m2.on fun o => e1.extBut _ o D.l2z).on fun o => e2.extBut _ o D.l2i1).on fun o => e3.extBut _ o D.l2TO) hy fun g4 a4 e4 => wpAny_pure ?_))))
  have o4 : IsPair g4 TO x b := e4.extBut _ _ D.TOi2 o3
  refine wpAny_bind (wpAny_seqItems o4 rfl (wpAny_bind (wpAny_updateSeq_pair o4 fun g5 (o5 : IsPair g5 TO x y) e5 => wpAny_bind (wpAny_letGo (wpAny_pure (wpAny_pure ?_))))))
  refine wpAny_bind (wpAny_seqItems o5 rfl (wpAny_bind (wpAny_newTuple ?_)))
  have size5 : g5.objs.size = s.heap.objs.size := e5.1.trans (e4.1.trans (e3.1.trans (e2.1.trans e1.1)))
  have z5 : IsZip g5 z TI TO .ellipsis := e5.extBut _ _ D.TOz.symm (e4.extBut _ _ D.i2z.symm (e3.extBut _ _ D.TOz.symm (e2.extBut _ _ D.i1z.symm b1)))
  have keep : ∀ c o, c ≠ z → c ≠ TO → c ≠ i1 → c ≠ i2 → s.heap.get? c = some o → g5.get? c = some o := fun c o r1 r2 r3 r4 q => e5.extBut _ o r2 (e4.extBut _ o r4 (e3.extBut _ o r2 (e2.extBut _ o r3 (e1.extBut _ o r1 q))))
  have p1 : ItAt g5 k1 i1 l1 (n1 + 1) := ((a2.on fun o => e3.extBut _ o D.TOi1.symm).on fun o => e4.extBut _ o D.i12).on fun o => e5.extBut _ o D.TOi1.symm
  have p2 : ItAt g5 k2 i2 l2 (n2 + 1) := a4.on fun o => e5.extBut _ o D.TOi2.symm
  have lz : z < g5.objs.size := Heap.lt_size z5
  refine wpAny_bind (m := Builtin.SmallTypes.ownedTupleHandOut (.ref z) (.ref g5.objs.size)) ?_
  unfold Builtin.SmallTypes.ownedTupleHandOut
  have z6 : IsZip (g5.push { cls := .type "tuple", data := .seq #[x, y] }) z TI TO .ellipsis := Heap.get?_push_of_some _ z5
  refine wpAny_bind (wpAny_setField_rec z6 (by simp) fun g7 (z7 : IsZip g7 z TI TO (rawInt g5.objs.size)) e7 => wpAny_setField_rec z7 (by simp) fun g8 (z8 : IsZip g8 z TI TO (rawInt g5.objs.size)) e8 => ?_)
  have up : ∀ c o, c ≠ z → g5.get? c = some o → g8.get? c = some o := fun c o r q => e8.extBut _ o r (e7.extBut _ o r (Heap.get?_push_of_some _ q))
  have t8 : IsPair g8 g5.objs.size x y := e8.extBut _ _ (Nat.ne_of_gt lz) (e7.extBut _ _ (Nat.ne_of_gt lz) (Heap.get?_push_size _ rfl))
  rw [size5] at z8 t8
  refine wpAny_pure ⟨_, rfl, ?_⟩
  show Q (.ref g5.objs.size) _
  rw [size5]
  exact c g8 z8 (up _ _ D.TOz o5) (p1.on fun o q => up _ o D.i1z q) (p2.on fun o q => up _ o D.i2z q) t8 fun c o r1 r2 r3 r4 q => up c o r1 (keep c o r1 r2 r3 r4 q)
theorem zm_first_end {Q : Fin → Shared → Prop} (hh : A.handled = none) (D : ZipApart z TI TO i1 i2 l1 l2) (hz : IsZip s.heap z TI TO .none) (hI : IsPair s.heap TI (.ref i1) (.ref i2)) (hO : IsPair s.heap TO a b)
    (q1 : ItAt s.heap k1 i1 l1 n1) (q2 : ItAt s.heap k2 i2 l2 n2) (m1 : SqAt s.heap k1 l1 xs) (m2 : SqAt s.heap k2 l2 ys) (fin : xs[n1]? = none ∨ ys[n2]? = none)
    (c : ∀ h' e, (∀ c o, c ≠ z → c ≠ TO → c ≠ i1 → c ≠ i2 → s.heap.get? c = some o → h'.get? c = some o) → (∃ o, h'.get? e = some o ∧ o.cls = .type "StopIteration") → E (.ref e) { s with heap := h' }) :
    wpAny (model P w) A (Builtin.«zip.__next__» ⟨[.ref z], []⟩) Q E s := by
  show wpAny _ _ (field (.ref z) 2 >>= fun _ => _) _ _ _
  refine wpAny_bind (wpAny_field hz rfl (x := Value.bool false) rfl ?_)
  show wpAny _ _ (field (.ref z) 3 >>= fun _ => _) _ _ _
  refine wpAny_bind (wpAny_field hz rfl (x := Value.ref TI) rfl (wpAny_bind (wpAny_seqItems hI rfl ?_)))
  refine wpAny_bind (m := Builtin.SmallTypes.ownedTupleIsFree (.ref z)) ?_
  unfold Builtin.SmallTypes.ownedTupleIsFree
  refine wpAny_bind (wpAny_field hz rfl (x := Value.none) rfl (wpAny_pure ?_)); simp only [if_true]
  refine wpAny_bind (wpAny_rule (wpAny_bind (wpAny_field hz rfl (x := Value.ref TO) rfl (wpAny_bind (wpAny_setField_rec hz (by simp) fun g1 (b1 : IsZip g1 z TI TO .ellipsis) e1 => wpAny_bind ?_)))))
  simp only [List.forIn_nil, List.forIn_cons, List.zipIdx_nil, List.zipIdx_cons]
  refine wpAny_bind (wpAny_bind (wpAny_onRaise (wpAny_bind (m := Builtin.SmallTypes.nextOf (.ref i1)) ?_)))
  cases hx : xs[n1]? with
  | none =>
    refine nx_end hh (q1.on fun o => e1.extBut _ o D.i1z) (m1.on fun o => e1.extBut _ o D.l1z) hx fun g2 e e2 ⟨oe, u1, u2⟩ => ?_
    have b2 : IsZip g2 z TI TO .ellipsis := e2 _ _ D.i1z.symm b1
    have ez : e ≠ z := fun q => by rw [q, b2] at u1; cases u1; simp at u2
    exact wpAny_setField_rec b2 (by simp) fun g3 _ e3 => c g3 e (fun c o r1 _ r3 _ q => e3.extBut _ o r1 (e2 _ o r3 (e1.extBut _ o r1 q))) ⟨oe, e3.extBut _ _ ez u1, u2⟩
  | some x =>
    have hy : ys[n2]? = none := fin.resolve_left fun q => by rw [hx] at q; cases q
    refine nx_item (q1.on fun o => e1.extBut _ o D.i1z) (m1.on fun o => e1.extBut _ o D.l1z) hx fun g2 a2 e2 => wpAny_pure ?_
    have o2 : IsPair g2 TO a b := e2.extBut _ _ D.TOi1 (e1.extBut _ _ D.TOz hO)
    refine wpAny_bind (wpAny_seqItems o2 rfl (wpAny_bind (wpAny_updateSeq_pair o2 fun g3 o3 e3 => wpAny_bind (wpAny_letGo (wpAny_pure ?_)))))
    refine wpAny_bind (wpAny_bind (wpAny_onRaise (wpAny_bind (m := Builtin.SmallTypes.nextOf (.ref i2)) (nx_end hh (((q2.on fun o => e1.extBut _ o D.i2z).on fun o => e2.extBut _ o D.i12.symm).on fun o => e3.extBut _ o D.TOi2.symm) (((m2.on fun o => e1.extBut _ o D.l2z).on fun o => e2.extBut _ o D.l2i1).on fun o => e3.extBut _ o D.l2TO) hy fun g4 e e4 ⟨oe, u1, u2⟩ => ?_))))
    have b4 : IsZip g4 z TI TO .ellipsis := e4 _ _ D.i2z.symm (e3.extBut _ _ D.TOz.symm (e2.extBut _ _ D.i1z.symm b1))
    have ez : e ≠ z := fun q => by rw [q, b4] at u1; cases u1; simp at u2
    exact wpAny_setField_rec b4 (by simp) fun g5 _ e5 => c g5 e (fun c o r1 r2 r3 r4 q => e5.extBut _ o r1 (e4 _ o r4 (e3.extBut _ o r2 (e2.extBut _ o r3 (e1.extBut _ o r1 q))))) ⟨oe, e5.extBut _ _ ez u1, u2⟩
end
/-- zip of two, its last tuple still out or none given yet -/
def MSt2 (d z TI TO i1 i2 l1 l2 : Addr) (k1 k2 : Bool) (xs ys : Array Value) (i : Nat) (h : Heap) : Prop :=
  IsPair h TI (.ref i1) (.ref i2) ∧ ItAt h k1 i1 l1 i ∧ ItAt h k2 i2 l2 i ∧ SqAt h k1 l1 xs ∧ SqAt h k2 l2 ys ∧ (∃ a b, IsPair h TO a b) ∧
    (IsZip h z TI TO .none ∨ ∃ T g o, IsZipHeld h z TI TO T g ∧ h.get? T = some o ∧ T ≠ z ∧ T ≠ i1 ∧ T ≠ i2 ∧ T ≠ d)
section
variable {P : Program} {w : World} {d z TI TO i1 i2 l1 l2 : Addr} {k1 k2 : Bool} {xs ys : Array Value} {i : Nat} {h : Heap}
theorem mst_type (st : MSt2 d z TI TO i1 i2 l1 l2 k1 k2 xs ys i h) : ∃ o, h.get? z = some o ∧ o.cls = .type "zip" := by
  obtain ⟨_, _, _, _, _, _, e | ⟨T, g, o, e, _⟩⟩ := st
  · exact ⟨_, e, rfl⟩
  · exact ⟨_, e, rfl⟩
theorem nsrc_zipM (D : ZipApart z TI TO i1 i2 l1 l2) (hd : d ∉ [z, TI, TO, i1, i2, l1, l2]) (xs ys : Array Value) {Rel : Nat → Value → Value → Prop} (hr : ∀ i k v, xs[i]? = some k → ys[i]? = some v → Rel i k v) :
    NSrc P w z d [z, TI, TO, i1, i2] (min xs.size ys.size) Rel (MSt2 d z TI TO i1 i2 l1 l2 k1 k2 xs ys) := by
  simp only [List.mem_cons, List.not_mem_nil, or_false, not_or] at hd
  obtain ⟨d1, d2, d3, d4, d5, d6, d7⟩ := hd
  constructor
  · intro i h h' ⟨s1, s2, s3, s4, s5, ⟨a, b, s6⟩, s7⟩ kp
    refine ⟨kp _ _ (Ne.symm d2) s1, s2.on fun o => kp _ o (Ne.symm d4), s3.on fun o => kp _ o (Ne.symm d5), s4.on fun o => kp _ o (Ne.symm d6), s5.on fun o => kp _ o (Ne.symm d7), ⟨a, b, kp _ _ (Ne.symm d3) s6⟩, ?_⟩
    exact s7.imp (fun e => kp _ _ (Ne.symm d1) e) fun ⟨T, g, o, e, eT, r1, r2, r3, r4⟩ => ⟨T, g, o, kp _ _ (Ne.symm d1) e, kp _ _ r4 eT, r1, r2, r3, r4⟩
  · intro i h st b hb
    obtain ⟨oz, ez, _⟩ := mst_type st
    obtain ⟨s1, s2, s3, s4, s5, ⟨a, c, s6⟩, s7⟩ := st
    simp only [List.mem_cons, List.not_mem_nil, or_false] at hb
    rcases hb with rfl | rfl | rfl | rfl | rfl
    · exact Heap.lt_size ez
    · exact Heap.lt_size s1
    · exact Heap.lt_size s6
    · exact s2.old
    · exact s3.old
  · intro A i s Q E hi st hdl k
    have oldz := (mst_type st).elim fun o e => Heap.lt_size e.1
    obtain ⟨oz, ez, tz⟩ := mst_type st
    have ty : s.TypeIs (.ref z) "zip" := ⟨oz, ez, tz⟩
    obtain ⟨s1, s2, s3, s4, s5, ⟨a, b, s6⟩, s7⟩ := st
    have ex := Array.getElem?_eq_getElem (show i < xs.size by omega)
    have ey := Array.getElem?_eq_getElem (show i < ys.size by omega)
    have o1 := s2.old
    have o2 := s3.old
    unfold pyNext
    refine wpAny_bind (wpAny_attempt (wpAny_callSpecial?_slot (name := Str.ofString "__next__") ty F.slot_zip_next (wpAny_call_entry F.slot_zip_next ty F.entry_zip_next ?_ (F.args_zip_next_1 _))))
    rcases s7 with e | ⟨T, g, o, e, eT, r1, r2, r3, r4⟩
    · refine zm_first D e s1 s6 s2 s3 s4 s5 ex ey fun h' z1 z2 z3 z4 z5 kp => wpAny_pure ?_
      refine k _ _ h' s.toks (hr i _ _ ex ey) ⟨_, z5, rfl, _, rfl⟩ ⟨kp _ _ D.TIz D.TITO D.TIi1 D.TIi2 s1, z3, z4, s4.on fun o => kp _ o D.l1z D.l1TO D.l1i1 D.l1i2, s5.on fun o => kp _ o D.l2z D.l2TO D.l2i1 D.l2i2, ⟨_, _, z2⟩, .inr ⟨_, false, _, z1, z5, Nat.ne_of_gt oldz, Nat.ne_of_gt o1, Nat.ne_of_gt o2, Nat.ne_of_gt hdl⟩⟩ fun c o hc q => ?_
      simp only [List.mem_cons, List.not_mem_nil, or_false, not_or] at hc
      exact kp c o hc.1 hc.2.2.1 hc.2.2.2.1 hc.2.2.2.2 q
    · refine zm_held D e eT s1 s2 s3 s4 s5 ex ey fun h' z1 z3 z4 z5 kp => wpAny_pure ?_
      refine k _ _ h' s.toks (hr i _ _ ex ey) ⟨_, z5, rfl, _, rfl⟩ ⟨kp _ _ D.TIz D.TIi1 D.TIi2 s1, z3, z4, s4.on fun o => kp _ o D.l1z D.l1i1 D.l1i2, s5.on fun o => kp _ o D.l2z D.l2i1 D.l2i2, ⟨a, b, kp _ _ D.TOz D.TOi1 D.TOi2 s6⟩, .inr ⟨T, true, o, z1, kp _ _ r1 r2 r3 eT, r1, r2, r3, r4⟩⟩ fun c o hc q => ?_
      simp only [List.mem_cons, List.not_mem_nil, or_false, not_or] at hc
      exact kp c o hc.1 hc.2.2.2.1 hc.2.2.2.2 q
  · intro A s Q E hh st k
    obtain ⟨oz, ez, tz⟩ := mst_type st
    have ty : s.TypeIs (.ref z) "zip" := ⟨oz, ez, tz⟩
    obtain ⟨s1, s2, s3, s4, s5, ⟨a, b, s6⟩, s7⟩ := st
    have fin : xs[min xs.size ys.size]? = none ∨ ys[min xs.size ys.size]? = none := by
      by_cases q : xs.size ≤ ys.size
      · exact .inl (Array.getElem?_eq_none (by omega))
      · exact .inr (Array.getElem?_eq_none (by omega))
    unfold pyNext
    refine wpAny_bind (wpAny_attempt (wpAny_callSpecial?_slot (name := Str.ofString "__next__") ty F.slot_zip_next (wpAny_call_entry F.slot_zip_next ty F.entry_zip_next ?_ (F.args_zip_next_1 _))))
    rcases s7 with e | ⟨T, g, o, e, eT, r1, r2, r3, r4⟩
    · refine zm_first_end hh D e s1 s6 s2 s3 s4 s5 fin fun h' e kp ⟨o, ho, hc⟩ => wpAny_bind (wpAny_isInstance (T := "StopIteration") (b := true) ⟨o, ho, hc⟩ isSubtype_stop (wpAny_pure (k h' s.toks fun c o hc q => ?_)))
      simp only [List.mem_cons, List.not_mem_nil, or_false, not_or] at hc
      exact kp c o hc.1 hc.2.2.1 hc.2.2.2.1 hc.2.2.2.2 q
    · refine zm_held_end hh D e eT s1 s2 s3 s4 s5 fin fun h' e kp ⟨o, ho, hc⟩ => wpAny_bind (wpAny_isInstance (T := "StopIteration") (b := true) ⟨o, ho, hc⟩ isSubtype_stop (wpAny_pure (k h' s.toks fun c o hc q => ?_)))
      simp only [List.mem_cons, List.not_mem_nil, or_false, not_or] at hc
      exact kp c o hc.1 hc.2.2.2.1 hc.2.2.2.2 q
end
end DL

set_option Elab.async false
set_option linter.all false
set_option autoImplicit false
set_option maxRecDepth 100000
namespace DL
open PySem PySem.Spec PyProof.Rows L2 HT
def itO (k : Bool) (l : Addr) : Obj := match k with
  | true => { cls := .type "tuple_iterator", data := .fields #[.ref l, .int 0 0] }
  | false => { cls := .type "list_iterator", data := .fields #[.ref l, .int 0 0] }
theorem itO_at {h : Heap} {k : Bool} {it l : Addr} (e : h.get? it = some (itO k l)) : ItAt h k it l 0 := by
  cases k with
  | true => exact ⟨_, e, rfl, rfl⟩
  | false => exact ⟨_, e, rfl, rfl⟩
abbrev zA (h : Heap) (k1 : Bool) (l1 : Addr) : Heap := h.push (itO k1 l1)
abbrev zB (h : Heap) (k1 k2 : Bool) (l1 l2 : Addr) : Heap := (zA h k1 l1).push (itO k2 l2)
abbrev zC (h : Heap) (k1 k2 : Bool) (l1 l2 : Addr) : Heap := (zB h k1 k2 l1 l2).push { cls := .type "tuple", data := .seq #[.ref h.objs.size, .ref (zA h k1 l1).objs.size] }
abbrev zD (h : Heap) (k1 k2 : Bool) (l1 l2 : Addr) : Heap := (zC h k1 k2 l1 l2).push { cls := .type "tuple", data := .seq #[.none, .none] }
abbrev zE (h : Heap) (k1 k2 : Bool) (l1 l2 : Addr) : Heap := (zD h k1 k2 l1 l2).push { cls := .type "zip", data := .fields #[.none, .bool false, .bool false, .ref (zB h k1 k2 l1 l2).objs.size, .ref (zC h k1 k2 l1 l2).objs.size] }
theorem SqAt.pushed {h : Heap} {k : Bool} {l : Addr} {xs : Array Value} (q : SqAt h k l xs) (o : Obj) : SqAt (h.push o) k l xs := q.on fun _ e => Heap.get?_push_of_some _ e
set_option maxHeartbeats 1000000
theorem meets_zTT (l1 l2 : Addr) (xs ys : Array Value) :
    Meets (Builtin.«zip.__new__» ⟨[.type "zip", .ref l1, .ref l2], []⟩) (fun _ R s => SqAt s.heap true l1 xs ∧ SqAt s.heap true l2 ys ∧ R (.ok (.ret (.ref (zD s.heap true true l1 l2).objs.size))) { s with heap := zE s.heap true true l1 l2 }) :=
  .of_wp fun prog w A R s hyp => by
    obtain ⟨hp, g, d, tk, os⟩ := s
    obtain ⟨m1, m2, h⟩ := hyp
    have sb := sub_zip
    have L1 : Heap.IsTuple (Shared.heap ⟨hp, g, d, tk, os⟩) l1 xs := m1
    have L2 : Heap.IsTuple (Shared.heap ⟨hp.push { cls := .type "tuple_iterator", data := .fields #[.ref l1, .int 0 0] }, g, d, tk, os⟩) l2 ys := SqAt.pushed (k := true) m2 _
    wp_walk using wpAny_pyIter_tuple L1, wpAny_pyIter_tuple L2
    exact ⟨_, rfl, h⟩
theorem meets_zTF (l1 l2 : Addr) (xs ys : Array Value) :
    Meets (Builtin.«zip.__new__» ⟨[.type "zip", .ref l1, .ref l2], []⟩) (fun _ R s => SqAt s.heap true l1 xs ∧ SqAt s.heap false l2 ys ∧ R (.ok (.ret (.ref (zD s.heap true false l1 l2).objs.size))) { s with heap := zE s.heap true false l1 l2 }) :=
  .of_wp fun prog w A R s hyp => by
    obtain ⟨hp, g, d, tk, os⟩ := s
    obtain ⟨m1, m2, h⟩ := hyp
    have sb := sub_zip
    have L1 : Heap.IsTuple (Shared.heap ⟨hp, g, d, tk, os⟩) l1 xs := m1
    have L2 : Heap.IsList (Shared.heap ⟨hp.push { cls := .type "tuple_iterator", data := .fields #[.ref l1, .int 0 0] }, g, d, tk, os⟩) l2 ys := SqAt.pushed (k := false) m2 _
    wp_walk using wpAny_pyIter_tuple L1, wpAny_pyIter_list L2
    exact ⟨_, rfl, h⟩
theorem meets_zFT (l1 l2 : Addr) (xs ys : Array Value) :
    Meets (Builtin.«zip.__new__» ⟨[.type "zip", .ref l1, .ref l2], []⟩) (fun _ R s => SqAt s.heap false l1 xs ∧ SqAt s.heap true l2 ys ∧ R (.ok (.ret (.ref (zD s.heap false true l1 l2).objs.size))) { s with heap := zE s.heap false true l1 l2 }) :=
  .of_wp fun prog w A R s hyp => by
    obtain ⟨hp, g, d, tk, os⟩ := s
    obtain ⟨m1, m2, h⟩ := hyp
    have sb := sub_zip
    have L1 : Heap.IsList (Shared.heap ⟨hp, g, d, tk, os⟩) l1 xs := m1
    have L2 : Heap.IsTuple (Shared.heap ⟨hp.push { cls := .type "list_iterator", data := .fields #[.ref l1, .int 0 0] }, g, d, tk, os⟩) l2 ys := SqAt.pushed (k := true) m2 _
    wp_walk using wpAny_pyIter_list L1, wpAny_pyIter_tuple L2
    exact ⟨_, rfl, h⟩
theorem meets_zFF (l1 l2 : Addr) (xs ys : Array Value) :
    Meets (Builtin.«zip.__new__» ⟨[.type "zip", .ref l1, .ref l2], []⟩) (fun _ R s => SqAt s.heap false l1 xs ∧ SqAt s.heap false l2 ys ∧ R (.ok (.ret (.ref (zD s.heap false false l1 l2).objs.size))) { s with heap := zE s.heap false false l1 l2 }) :=
  .of_wp fun prog w A R s hyp => by
    obtain ⟨hp, g, d, tk, os⟩ := s
    obtain ⟨m1, m2, h⟩ := hyp
    have sb := sub_zip
    have L1 : Heap.IsList (Shared.heap ⟨hp, g, d, tk, os⟩) l1 xs := m1
    have L2 : Heap.IsList (Shared.heap ⟨hp.push { cls := .type "list_iterator", data := .fields #[.ref l1, .int 0 0] }, g, d, tk, os⟩) l2 ys := SqAt.pushed (k := false) m2 _
    wp_walk using wpAny_pyIter_list L1, wpAny_pyIter_list L2
    exact ⟨_, rfl, h⟩
theorem meets_zM (k1 k2 : Bool) (l1 l2 : Addr) (xs ys : Array Value) :
    Meets (Builtin.«zip.__new__» ⟨[.type "zip", .ref l1, .ref l2], []⟩) (fun _ R s => SqAt s.heap k1 l1 xs ∧ SqAt s.heap k2 l2 ys ∧ R (.ok (.ret (.ref (zD s.heap k1 k2 l1 l2).objs.size))) { s with heap := zE s.heap k1 k2 l1 l2 }) := by
  cases k1 <;> cases k2
  · exact meets_zFF l1 l2 xs ys
  · exact meets_zFT l1 l2 xs ys
  · exact meets_zTF l1 l2 xs ys
  · exact meets_zTT l1 l2 xs ys
section
variable {P : Program} {w : World} {A : Around} {E : Value → Shared → Prop} {s : Shared} {k1 k2 : Bool}
theorem call_zM {l1 l2 : Addr} {xs ys : Array Value} {Q : Value → Shared → Prop} (m1 : SqAt s.heap k1 l1 xs) (m2 : SqAt s.heap k2 l2 ys)
    (c : ∀ h', IsZip h' (s.heap.objs.size + 4) (s.heap.objs.size + 2) (s.heap.objs.size + 3) .none → IsPair h' (s.heap.objs.size + 2) (.ref s.heap.objs.size) (.ref (s.heap.objs.size + 1)) → IsPair h' (s.heap.objs.size + 3) .none .none → ItAt h' k1 s.heap.objs.size l1 0 → ItAt h' k2 (s.heap.objs.size + 1) l2 0 → h'.objs.size = s.heap.objs.size + 5 → (∀ c o, s.heap.get? c = some o → h'.get? c = some o) → Q (.ref (s.heap.objs.size + 4)) { s with heap := h' }) :
    wpAny (model P w) A (call (.type "zip") [.ref l1, .ref l2]) Q E s := by
  refine callType_new F.called_zip (by decide) (F.typeCall_zip_2 _ _) (F.newCall_zip_2 _ _) (fun obj => F.args_object_init_3 obj _ _) F.entry_zip_new (meets_zM k1 k2 l1 l2 xs ys) ⟨m1, m2, ?_⟩
  have u1 : (zA s.heap k1 l1).objs.size = s.heap.objs.size + 1 := Heap.size_push ..
  have u2 : (zB s.heap k1 k2 l1 l2).objs.size = s.heap.objs.size + 2 := (Heap.size_push ..).trans (by rw [u1])
  have u3 : (zC s.heap k1 k2 l1 l2).objs.size = s.heap.objs.size + 3 := (Heap.size_push ..).trans (by rw [u2])
  have u4 : (zD s.heap k1 k2 l1 l2).objs.size = s.heap.objs.size + 4 := (Heap.size_push ..).trans (by rw [u3])
  have u5 : (zE s.heap k1 k2 l1 l2).objs.size = s.heap.objs.size + 5 := (Heap.size_push ..).trans (by rw [u4])
  have on : ∀ {h : Heap} {x : Addr} {o p : Obj}, h.get? x = some o → (h.push p).get? x = some o := fun e => Heap.get?_push_of_some _ e
  have v5 : (zE s.heap k1 k2 l1 l2).get? (zD s.heap k1 k2 l1 l2).objs.size = some _ := Heap.get?_push_size _ rfl
  have v4 : (zE s.heap k1 k2 l1 l2).get? (zC s.heap k1 k2 l1 l2).objs.size = some _ := on (Heap.get?_push_size _ rfl)
  have v3 : (zE s.heap k1 k2 l1 l2).get? (zB s.heap k1 k2 l1 l2).objs.size = some _ := on (on (Heap.get?_push_size _ rfl))
  have v2 : (zE s.heap k1 k2 l1 l2).get? (zA s.heap k1 l1).objs.size = some (itO k2 l2) := on (on (on (Heap.get?_push_size _ (by cases k2 <;> rfl))))
  have v1 : (zE s.heap k1 k2 l1 l2).get? s.heap.objs.size = some (itO k1 l1) := on (on (on (on (Heap.get?_push_size _ (by cases k1 <;> rfl)))))
  show _ ∧ _
  rw [u2, u3, u4] at v5
  rw [u1, u2] at v3
  rw [u3] at v4
  rw [u1] at v2
  rw [u4]
  exact ⟨⟨_, v5, rfl⟩, c _ v5 v3 v4 (itO_at v1) (itO_at v2) u5 fun c o x => on (on (on (on (on x))))⟩
end
section
variable {X : Cx}
def SqK (K : PySem.W.Frag) (H : Hp) (k : Bool) (a : Addr) (xs : List V) : Prop := match k with
  | true => SqT K H a xs
  | false => SqL K H a xs
theorem sqK_at {pins : List (Addr × Obj)} {σ : L2.St} {H : Hp} {s : Shared} {k : Bool} {a : Addr} {xs : List V} (I : Inv X pins σ H s) (h : SqK X.K H k a xs) : ∃ its : List Value, Vals xs its ∧ SqAt s.heap k a its.toArray ∧ a < s.heap.objs.size := by
  cases k with
  | true =>
    obtain ⟨its, rv, p1, _⟩ := I.tuple h
    exact ⟨its, rv, p1, p1.elim fun o e => Heap.lt_size e.1⟩
  | false =>
    obtain ⟨its, rv, p1, _⟩ := I.list h
    exact ⟨its, rv, p1.isList, p1.lt⟩
def tZmN (K : PySem.W.Frag) (ta : TA) : TN := fun σ H Q => ta σ H fun vs H1 => ∃ a b k1 k2 xs ys, vs = [.ref a, .ref b] ∧ SqK K H1 k1 a xs ∧ SqK K H1 k2 b ys ∧ Q (min xs.length ys.length) (zpF xs ys) H1
theorem pn_zipM {e e2 : Expr} {ta : TA} {p pos : Pos} (hg : Gl X "zip") (hm : X.mg "zip" = none) (ha : PA X [e, e2] ta) (hs : starEach [e, e2] X.env = (false, eval e X.env) :: starEach [e2] X.env := by rfl) (hpl : (backTo pos (starEach [e2] X.env)).any (·.1) = false := by rfl) :
    PNs X (.Call (.Name "zip" p) [e, e2] [] pos) (tZmN X.K ta) := by
  intro pins s σ H Q Iv h
  refine Call_ (ld_blt Iv hg hm PyProof.Rows.boot_zip (PyProof.Rows.callWith_type1 (thn (ha.run pos pins s σ H _ Iv h) fun us s1 ⟨vs, H1, I1, r1, q1⟩ => ?_) hs hpl))
  obtain ⟨a, b, k1, k2, xs, ys, ex, hqx, hqy, q⟩ := q1
  subst ex
  cases r1 with
  | cons r rr =>
    cases rr with
    | cons r' rr =>
      cases rr
      cases r
      cases r'
      obtain ⟨its, rv, p1, la⟩ := sqK_at I1 hqx
      obtain ⟨jts, rw', p2, lb⟩ := sqK_at I1 hqy
      refine call_zM p1 p2 fun h' z1 z2 z3 z4 z5 z6 kp => ?_
      have I2 : Inv X pins σ H1 { s1 with heap := h' } := I1.kept (t' := s1.toks) kp
      have nn : min its.toArray.size jts.toArray.size = min xs.length ys.length := by
        rw [List.size_toArray, List.size_toArray, rv.length, rw'.length]
      have src := nsrc_zipM (P := X.prog) (w := X.w) (k1 := k1) (k2 := k2) (d := h'.objs.size) (PySem.W.ktu_apart s1.heap.objs.size a b la lb) (fun hm => by
        rw [z6] at hm
        simp only [List.mem_cons, List.not_mem_nil, or_false] at hm
        have ha' : (a : Nat) < s1.heap.objs.size := la
        have hb' : (b : Nat) < s1.heap.objs.size := lb
        have key : ∀ N x y : Nat, x < N → y < N → ¬ (N + 5 = N + 4 ∨ N + 5 = N + 2 ∨ N + 5 = N + 3 ∨ N + 5 = N ∨ N + 5 = N + 1 ∨ N + 5 = x ∨ N + 5 = y) := fun N x y _ _ => by omega
        exact key _ _ _ ha' hb' hm) its.toArray jts.toArray (Rel := fun i k v => RelV (zpF xs ys i).1 k ∧ RelV (zpF xs ys i).2 v) (fun i k v e1 e2 => by
        obtain ⟨x, hx, rx⟩ := vals_at rv e1
        obtain ⟨y, hy, ry⟩ := vals_at rw' e2
        unfold zpF
        rw [hx, hy]
        exact ⟨rx, ry⟩)
      rw [nn] at src
      refine ⟨"zip", _, _, _, _, _, H1, .inl rfl, rfl, src, fun h st => mst_type st, fun A s Q E st k => ?_, I2, fun c hcm => ?_, ⟨z2, z4, z5, p1.on fun o => kp _ o, p2.on fun o => kp _ o, ⟨_, _, z3⟩, .inl z1⟩, q⟩
      · obtain ⟨_, _, _, _, _, _, e | ⟨T, g, o, e, _⟩⟩ := st
        · exact wpAny_pyIter_zip e k
        · have hT : s.TypeIs (.ref _) "zip" := ⟨_, e, rfl⟩
          refine wpAny_pyIter_slot hT F.slot_zip_iter (wpAny_call_entry F.slot_zip_iter hT F.entry_zip_iter ?_ (F.args_zip_iter_1 _))
          show wpAny _ _ (ret (.ref _)) _ _ s
          exact wpAny_pure ⟨_, rfl, "zip", _, hT, F.slot_zip_next.lookup, k⟩
      · have hle : s1.heap.objs.size ≤ c := by
          simp only [List.mem_cons, List.not_mem_nil, or_false] at hcm
          have key : ∀ N x : Nat, (x = N + 4 ∨ x = N + 2 ∨ x = N + 3 ∨ x = N ∨ x = N + 1) → N ≤ x := fun N x _ => by omega
          exact key _ _ hcm
        exact I1.fpOk hle (I1.hok.fresh hle)
end
section
variable {X : Cx} {S : Type} [MSt S] {K : PySem.W.Frag} {a b : Expr} {ta tb : TE} {da db : DEt S} {p pos p' pos' : Pos}
theorem dp_seqK {G : Hp} {v : V} {d : PyData} {k : Bool} {ds : List PyData} (h : Dp K G v d) (e : seqD d = some (k, ds)) : ∃ l xs, v = .ref l ∧ (∀ H, (∀ c o, G c = some o → H c = some o) → SqK K H k l xs) ∧ DpAll K G xs ds := by
  cases h with
  | @lst l xs ds' s ha =>
    cases e
    exact ⟨l, xs, rfl, fun H g => .inl (.inl (g _ _ s)), ha⟩
  | @tup l xs ds' s ha =>
    cases e
    refine ⟨l, xs, rfl, fun H g => ?_, ha⟩
    rcases s with (s | ⟨o, s⟩) | s
    · exact .inl (.inl (g _ _ s))
    · exact .inl (.inr ⟨o, g _ _ s⟩)
    · exact .inr s
  | _ => cases e
omit [MSt S] in
/-- list(zip(a, b)), each a list or a tuple -/
def dLsZpM (da db : DEt S) : DFt S := fun ε n P => da ε n fun x n1 => db ε n1 fun y n2 => ∃ k1 k2 xs ys, seqD x = some (k1, xs) ∧ seqD y = some (k2, ys) ∧ min xs.length ys.length ≤ 100000 ∧ P (List.zipWith (fun a b => PyData.tuple [a, b]) xs ys) n2
theorem df_listZpM (hc : X.calm = true) (hg : Gl X "list") (hm : X.mg "list" = none) (hg2 : Gl X "zip") (hm2 : X.mg "zip" = none) (ha : DE K X a ta da) (hb : DE K X b tb db) (hs : starEach [a, b] X.env = (false, eval a X.env) :: starEach [b] X.env := by rfl) (hs2 : starEach [b] X.env = (false, eval b X.env) :: starEach [] X.env := by rfl) (hpl : (backTo pos' (starEach [b] X.env)).any (·.1) = false := by rfl)
    (nb : starEach [.Call (.Name "zip" p') [a, b] [] pos'] X.env = (false, eval (.Call (.Name "zip" p') [a, b] [] pos') X.env) :: starEach [] X.env := by rfl) (hK : X.K = K := by rfl) :
    DF K X (.Call (.Name "list" p) [.Call (.Name "zip" p') [a, b] [] pos'] [] pos) (tLsP (tZmN K (tCons ta (tCons tb tNil)))) (dLsZpM da db) := by
  subst hK
  refine ⟨pe_listPs hc hg hm (pn_zipM hg2 hm2 (pa_cons ha.pe (pa_cons hb.pe pa_nil hs2) hs) hs hpl) nb, fun bo G0 H0 σ H G ε n P Q R hp k => ?_⟩
  refine ha.se bo G0 H0 σ H G ε n _ _ R hp fun v G1 H1 d n1 g1 b1 p1 h1 => hb.se bo G0 H0 σ H1 G1 ε n1 _ _ (R.grow g1 b1) h1 fun w G2 H2 d2 n2 g2 b2 p2 h2 => ?_
  obtain ⟨k1, k2, ds, es, sx, sy, hn, h2⟩ := h2
  obtain ⟨l, xs, rfl, sa, ha'⟩ := dp_seqK (dp_mono g2.gg p1) sx
  obtain ⟨l', ys, rfl, sb, hb'⟩ := dp_seqK p2 sy
  refine ⟨l, l', k1, k2, xs, ys, rfl, sa H2 fun c o => g2.gh c o, sb H2 fun c o => g2.gh c o, by rw [dpa_len ha', dpa_len hb']; exact hn, fun q H' ps hq kp hl hps hq' => ?_⟩
  obtain ⟨r1, r2, r3, r4⟩ := read_prs (bo := bo) (ds := List.zipWith (fun a b => PyData.tuple [a, b]) ds es) g2.gh b2 hq kp (by rw [hl, List.length_zipWith, dpa_len ha', dpa_len hb']) hps hq' fun j z hz => by
    obtain ⟨x, y, e1, e2, rfl⟩ := zip_get _ hz
    obtain ⟨vx, f1, f1'⟩ := dpa_get ha' e1
    obtain ⟨vy, f2, f2'⟩ := dpa_get hb' e2
    refine ⟨x, y, rfl, ?_, ?_⟩
    · show Dp X.K G2 (xs[j]?.getD _) x
      rw [f1]
      exact f1'
    · show Dp X.K G2 (ys[j]?.getD _) y
      rw [f2]
      exact f2'
  exact k q _ _ H' _ n2 ((g1.trans b1 g2).trans b2 r1) r2 ((g1.trans b1 g2).back b2 hq) r3 hq' r4 h2
end
end DL

set_option Elab.async false
set_option linter.all false
set_option autoImplicit false
set_option maxRecDepth 100000
namespace DL
open PySem PySem.Spec PyProof.Rows L2 HT
/-! ### max(l, default=k) of a list of ints -/
theorem maxOf_int : ∀ (xs : List Int) (x : Int), PySem.W.maxOf x xs ∈ x :: xs ∧ ∀ y ∈ x :: xs, y ≤ PySem.W.maxOf x xs
  | [], x => ⟨List.mem_cons_self, fun y hy => by
      rw [List.mem_singleton.mp hy]
      exact Int.le_refl _⟩
  | z :: xs, x => by
    have e : PySem.W.maxOf x (z :: xs) = PySem.W.maxOf (if decide (x < z) = true then z else x) xs := rfl
    rw [e]
    by_cases h : x < z
    · rw [if_pos (decide_eq_true h)]
      obtain ⟨h1, h2⟩ := maxOf_int xs z
      refine ⟨List.mem_cons_of_mem _ h1, fun y hy => ?_⟩
      rcases List.mem_cons.mp hy with rfl | hy
      · have := h2 z List.mem_cons_self
        omega
      · exact h2 y hy
    · rw [if_neg (by simp [h])]
      obtain ⟨h1, h2⟩ := maxOf_int xs x
      refine ⟨?_, fun y hy => ?_⟩
      · rcases List.mem_cons.mp h1 with h1 | h1
        · rw [h1]
          exact List.mem_cons_self
        · exact List.mem_cons_of_mem _ (List.mem_cons_of_mem _ h1)
      · rcases List.mem_cons.mp hy with rfl | hy
        · exact h2 y List.mem_cons_self
        · rcases List.mem_cons.mp hy with rfl | hy
          · have := h2 x List.mem_cons_self
            omega
          · exact h2 y (List.mem_cons_of_mem _ hy)
section
variable {X : Cx}
def rMaxD (K : PySem.W.Frag) : List V → List V → Hp → VK → Prop := fun vs zs H Q => ∃ (a : Addr) (ns : List Int) (k : Int), vs = [V.ref a] ∧ zs = [V.int k] ∧ SqL K H a (ns.map V.int) ∧ (ns = [] → Q (.int k) H) ∧ ∀ m, m ∈ ns → (∀ y, y ∈ ns → y ≤ m) → Q (.int m) H
theorem crk_max (hc : X.calm = true) (hu : X.A.units + 65 < cLine) : CallRK X (.builtin "max") ["default"] (rMaxD X.K) := by
  intro pins s σ H vs zs us ws Q I r rz h
  obtain ⟨a, ns, k, rfl, rfl, hs, q0, q⟩ := h
  obtain ⟨its, rv, hl, _⟩ := I.list hs
  rw [Vals.ref1 r]
  cases rz with
  | @cons _ _ u _ r1 r2 =>
    cases r2
    obtain ⟨t, rfl⟩ := r1
    refine PySem.W.max_list_datum_default (α := Int) (d := .int k t) (I.ok.hd hc) hl.isList (PySem.W.HoldAll.of_ints rv.ints) (by show X.A.units + 1 + 0 < cLine; omega) (fun e h' tk hk => ⟨.int k, H, I.kept hk, ⟨t, rfl⟩, q0 e⟩) fun y ys i v h' tk e hi hv hk => ?_
    obtain ⟨h1, h2⟩ := maxOf_int ys y
    obtain ⟨as, hv⟩ := hv
    cases hv with
    | int _ t' => exact ⟨.int _, H, I.kept hk, ⟨t', rfl⟩, q _ (e ▸ h1) (e ▸ h2)⟩
end
section
variable {X : Cx} {S : Type} [MSt S] {K : PySem.W.Frag} {e e2 : Expr} {te te2 : TE} {de dd : DEt S} {p pos kpos : Pos}
omit [MSt S] in
def dMaxD (de dd : DEt S) : DEt S := fun ε n P => de ε n fun x n1 => dd ε n1 fun y n2 => ∃ ds ns k m, x = .list ds ∧ y = .int k ∧ inD ds = some ns ∧ ((ns = [] ∧ m = k) ∨ (m ∈ ns ∧ ∀ y ∈ ns, y ≤ m)) ∧ P (.int m) n2
theorem de_maxD (hcal : X.calm = true) (hu : X.A.units + 65 < cLine) (hg : Gl X "max") (hm : X.mg "max" = none) (h : DE K X e te de) (h2 : DE K X e2 te2 dd)
    (hes : starEach [e] X.env = (false, eval e X.env) :: starEach [] X.env := by rfl) (he : backTo pos (starEach [e] X.env) = (false, eval e X.env) :: backTo pos (starEach [] X.env) := by rfl) (hpl : (backTo pos (starEach [e] X.env)).any (·.1) = false := by rfl) (hK : X.K = K := by rfl) :
    DE K X (.Call (.Name "max" p) [e] [⟨some "default", e2, kpos⟩] pos) (tCKw (rMaxD K) (tCons te tNil) (tCons te2 tNil)) (dMaxD de dd) := by
  subst hK
  refine ⟨pe_callBK (crk_max hcal hu) hg hm boot_max (pa_cons h.pe pa_nil hes) (pk_cons h2.pe pk_nil) (by decide) (by decide) he hpl rfl rfl rfl, fun bo G0 H0 σ H G ε n P Q R hp k => ?_⟩
  refine h.se bo G0 H0 σ H G ε n _ _ R hp fun v G1 H1 d n1 g1 b1 p1 h1 => h2.se bo G0 H0 σ H1 G1 ε n1 _ _ (R.grow g1 b1) h1 fun w G2 H2 d2 n2 g2 b2 p2 h2 => ?_
  obtain ⟨ds, ns, kk, m, rfl, rfl, e1, hm, h2⟩ := h2
  cases p1 with
  | @lst l xs _ s ha' =>
    cases p2
    have ev := in_map ha' e1
    subst ev
    refine ⟨l, ns, kk, rfl, rfl, .inl (.inl (g2.gh _ _ (g2.gg _ _ s))), fun z => ?_, fun m' i1 i2 => ?_⟩
    · rcases hm with ⟨_, rfl⟩ | ⟨hm, _⟩
      · exact k _ G2 H2 _ n2 (g1.trans b1 g2) b2 (.int _) h2
      · rw [z] at hm
        cases hm
    · rcases hm with ⟨rfl, _⟩ | ⟨hm, hm2⟩
      · cases i1
      · have : m' = m := Int.le_antisymm (hm2 m' i1) (i2 m hm)
        subst this
        exact k _ G2 H2 _ n2 (g1.trans b1 g2) b2 (.int _) h2
end
end DL

set_option Elab.async false
set_option linter.all false
set_option autoImplicit false
set_option maxRecDepth 100000
namespace DL
open PySem PySem.Spec PyProof.Rows L2 HT
/-! ### table.setdefault(key, value), the table being the one thing -/
section
variable {X : Cx} {o e f : Expr} {to : TE} {t : TA} {apos cpos : Pos}
def tDefN (K : PySem.W.Frag) (to : TE) (t : TA) : TE := fun σ H Q => to σ H fun x H1 => (∃ d xs, x = .ref d ∧ H1 d = some (dN d xs)) ∧ t σ H1 fun vs H2 => rDefN K x vs H2 Q
theorem pe_defN (hu : X.A.units + 64 < cLine) (ho : PE X o to) (ha : PA X [e, f] t) (hbase : attributeBase o "setdefault" X.env (eval o X.env) = eval o X.env := by rfl)
    (hfew : ((backTo cpos (starEach [e, f] X.env)).all (fun x => !x.1) && (backToKw cpos (keywordEach [] X.env)).all (fun x => x.1.isSome) && decide (([e, f] : List Expr).length + ([] : List Keyword).length + (if ([] : List Keyword).isEmpty then 0 else 1) < 30)) = true := by rfl)
    (hline : (apos.endLine == cpos.line) = true := by rfl) (hs : starEach [e, f] X.env = (false, eval e X.env) :: starEach [f] X.env := by rfl) (hpl : (backTo cpos (starEach [f] X.env)).any (·.1) = false := by rfl) :
    PE X (.Call (.Attribute o "setdefault" apos) [e, f] [] cpos) (tDefN X.K to t) := by
  refine ⟨fun pins s σ H Q I h => ?_⟩
  refine wpAny_Call_method_late hbase hfew hline rfl (thn (ho.run pins s σ H _ I h) fun v s1 ⟨x, H1, I1, r1, ⟨d, xs, ex, hd⟩, q1⟩ => ?_)
  subst ex
  obtain rfl : v = Value.ref d := r1
  obtain ⟨⟨u1, u2, u3, u4, ob, es, ep, us, u5, u6, u7, u8, u9⟩, _, _⟩ := I1.hok d _ hd
  refine ⟨"dict", "dict.setdefault", PySem.F.plainAttrs_dict, PySem.F.slot_dict_setdefault, PySem.F.type_dict_setdefault, ⟨ob, u5, u6.1⟩, fun a ea => ?_, ?_⟩
  · cases ea
    exact ⟨ob, u5, u6.2.1⟩
  · have hA := ha.run cpos pins s1 σ H1 _ I1 q1
    rw [hs] at hA ⊢
    refine Calls.callWith_builtin (by show (false || (backTo cpos (starEach [f] X.env)).any (·.1)) = false; rw [hpl] <;> rfl) (Calls.evalArgs_plain ?_)
    exact thn hA fun us s2 ⟨vs, H2, I2, r2, q2⟩ => mt_defN hu pins s2 σ H2 (.ref d) vs _ us Q I2 rfl r2 q2
end
/-- what stands in such a table behind it, and what is told -/
def dDefB (i : Nat) (dk dv : DEt Own) : DEt Own := fun ε n P => ε[i]? = some .bx ∧ (∃ ds os, n = .dct ds os) ∧ dk ε n fun kd n1 => dv ε n1 fun d n2 => ∃ (ds es : List PyData), n2 = .dct ds (es.map .dat) ∧ ds.length < 100000 ∧ keyOk kd ∧
  ((∃ w, valO ds (es.map .dat) kd = some (.dat w) ∧ P w n2) ∨ (valO ds (es.map .dat) kd = none ∧ P d (.dct (putKs ds kd) (putO ds (es.map .dat) kd (.dat d)))))
section
variable {X : Cx} {K : PySem.W.Frag} {e f : Expr} {te tf : TE} {dk dv : DEt Own} {p apos cpos : Pos}
theorem de_defB (i : Nat) {x : Str} (hu : X.A.units + 64 < cLine) (hk : DE K X e te dk) (hv : DE K X f tf dv) (hN : X.N[i]? = some x := by rfl) (hvis : Vis X.env.scope x := by first | exact Or.inl rfl | exact Or.inr (Or.inl rfl) | exact Or.inr (Or.inr rfl)) (hd : (x == ("__debug__" : Str)) = false := by decide) (hcd : (x == ("__classdict__" : Str)) = false := by decide)
    (hbase : attributeBase (.Name x p) "setdefault" X.env (eval (.Name x p) X.env) = eval (.Name x p) X.env := by rfl)
    (hfew : ((backTo cpos (starEach [e, f] X.env)).all (fun x => !x.1) && (backToKw cpos (keywordEach [] X.env)).all (fun x => x.1.isSome) && decide (([e, f] : List Expr).length + ([] : List Keyword).length + (if ([] : List Keyword).isEmpty then 0 else 1) < 30)) = true := by rfl)
    (hline : (apos.endLine == cpos.line) = true := by rfl) (hs : starEach [e, f] X.env = (false, eval e X.env) :: starEach [f] X.env := by rfl) (hs2 : starEach [f] X.env = (false, eval f X.env) :: starEach [] X.env := by rfl) (hpl : (backTo cpos (starEach [f] X.env)).any (·.1) = false := by rfl) (hK : X.K = K := by rfl) :
    DE K X (.Call (.Attribute (.Name x p) "setdefault" apos) [e, f] [] cpos) (tDefN K (tVar i) (tCons te (tCons tf tNil))) (dDefB i dk dv) := by
  subst hK
  refine ⟨pe_defN hu (pe_var hN hvis hd hcd) (pa_cons hk.pe (pa_cons hv.pe pa_nil hs2) hs) hbase hfew hline hs hpl, fun bo G0 H0 σ H G ε n P Q R hp k => ?_⟩
  obtain ⟨hi, ⟨ds0, os0, rfl⟩, hp⟩ := hp
  obtain ⟨b, rfl, hσ⟩ := R.bs i hi
  have hH : ∃ xs, H b.ad = some (dN b.ad xs) := by
    obtain ⟨f0, r0, _, _⟩ := R.bx
    cases r0 with
    | dct q _ _ _ =>
      obtain ⟨xs, e1, _⟩ := q
      exact ⟨xs, e1⟩
  refine ⟨_, hσ, hH.elim fun xs e1 => ⟨_, xs, rfl, e1⟩, ?_⟩
  refine hk.se (some b) G0 H0 σ H G ε _ _ _ R hp fun kv G1 H1 kd n1 g1 b1 pk h1 => hv.se (some b) G0 H0 σ H1 G1 ε n1 _ _ (R.grow g1 b1) h1 fun v G2 H2 d n2 g2 b2 pd h2 => ?_
  obtain ⟨ds, es, rfl, hl, ok, h2⟩ := h2
  have R2 := (R.grow g1 b1).grow g2 b2
  obtain ⟨dd, xs, fp, c1, _, c2, rfl, cn, c4, c5, c6, c7⟩ := R2.placeDct (pl := ⟨none, []⟩) (ds := ds) (os := es.map .dat) (by rfl) fun _ => ⟨b, rfl⟩
  have hdd : dd = b.ad := by
    obtain ⟨b', eb, ev⟩ := c1
    cases eb
    rw [vAt_nil] at ev
    cases ev
    rfl
  subst hdd
  obtain ⟨ka, rfl⟩ := key_ref pk ok
  obtain ⟨c5', rfl⟩ := OwsR.undat c5
  have g12 := g1.trans b1 g2
  refine ⟨ka, b.ad, kd, xs, v, rfl, rfl, dp_mono (g2.gg.trans g2.gh) pk, ok, c2, dkeys_up g2.gh c4, szl (by rw [List.length_map] at hl; exact hl), ?_⟩
  obtain ⟨v1, v2⟩ := valN_O (k := kd) c5
  rcases h2 with ⟨w, hw, h2⟩ | ⟨hw, h2⟩
  · cases e1 : valN xs kd with
    | none =>
      rw [v1.mp e1] at hw
      cases hw
    | some u =>
      obtain ⟨o', g', z1, z2⟩ := v2 u e1
      rw [z1] at hw
      cases hw
      cases z2 with
      | dat pw => exact k u G2 H2 w _ g12 b2 pw h2
  · have e1 : valN xs kd = none := v1.mpr hw
    rw [e1]
    obtain ⟨es', q1, q2, q3⟩ := store_ows (a := ka) pd c5' cn.1 cn.2 ok
    rw [q2, q3] at h2
    have R3 := c7 (storeN xs kd ka v) _ [] (OwsR.dat q1) (fun x hx => ?_) (storeN_keys cn.1 cn.2 ok) (fun _ z => nomatch z)
    · have hb : Has (some b) b.ad := by
        obtain ⟨f0, r0, s0, _⟩ := b2
        cases r0 with
        | dct _ _ _ _ => exact s0 _ List.mem_cons_self
      refine k v G2 _ d _ ⟨g12.gg, R3.gh, g12.fr, fun a u z1 z2 => ?_⟩ R3.bx pd h2
      rw [upd_ne (fun z => z1 (by rw [z]; exact hb))]
      exact g12.kp a u z1 z2
    · unfold storeN at hx
      split at hx
      · obtain ⟨y, hy, rfl⟩ := List.mem_map.mp hx
        split
        · exact c4 y hy
        · exact c4 y hy
      · rcases List.mem_append.mp hx with z | z
        · exact c4 x z
        · rw [List.mem_singleton.mp z]
          exact dp_mono g2.gg pk
end
section
variable {X : Cx} {S : Type} [MOw S] {K : PySem.W.Frag} {a : Expr} {ta : TE} {dp : DPt S} {p pos : Pos}
/-- len of a dict at a place -/
def dLenD (dp : DPt S) : DEt S := fun ε n P => dp ε n fun pl _ => ∃ ds os, plGet ε n pl = some (.dct ds os) ∧ P (.int (ds.length : Int)) n
theorem dv_lenD (hg : Gl X "len") (hm : X.mg "len" = none) (ha : DP K X a ta dp) (he : starEach (a :: []) X.env = (false, eval a X.env) :: starEach [] X.env := by rfl) (hpl : (backTo pos (starEach [] X.env)).any (·.1) = false := by rfl) (hK : X.K = K := by rfl) :
    DV K X (.Call (.Name "len" p) [a] [] pos) (tCB (rLenN K) (tCons ta tNil)) (dLenD dp) := by
  subst hK
  exact ⟨pe_callB call_lenN hg hm PySem.boot_len (pa_cons ha.pe pa_nil he) (by decide) (by decide) he hpl, fun bo G0 H0 σ H G ε n P Q r q k => ha.se bo G0 H0 σ H G ε n _ _ r q fun v G1 H1 pl g1 pv hb h1 => by
    obtain ⟨ds, os, hg, h1⟩ := h1
    obtain ⟨dd, xs, f, c1, _, c2, rfl, _, c4, c5, _⟩ := (r.after g1).placeDct hg hb
    cases pv.inj c1
    exact ⟨dd, xs, rfl, c2, dkeys_up g1.gh c4, k _ G1 H1 _ g1 (.int _) (by rw [List.length_map] at h1; exact h1)⟩⟩
end
end DL

set_option Elab.async false
set_option linter.all false
set_option autoImplicit false
set_option maxRecDepth 100000
namespace DL
open PySem PySem.Spec PyProof.Rows L2 HT
section
variable {X : Cx} {S : Type} [MOw S] {K : PySem.W.Frag} {pos : Pos}
omit [MOw S] in
/-- {} -/
def dnNewD : DNt S := fun ε n P => P (.dct [] []) n
theorem dn_newD (hK : X.K = K := by rfl) : DN K X (.Dict [] [] pos) tNewN (dnNewD (S := S)) := by
  subst hK
  refine ⟨pe_newN, fun bo G0 H0 σ H G ε n P Q R hp k => fun p hpn => ?_⟩
  have sg : Same G (upd H p (dN p [])) := fun a u z => by
    rw [upd_ne (ne_of_none (R.gh a u z) hpn)]
    exact R.gh a u z
  have kp : ∀ a u, H a = some u → upd H p (dN p []) a = some u := fun a u z => by
    rw [upd_ne (ne_of_none z hpn)]
    exact z
  refine k (.ref p) G _ (.dct [] []) [p] n ⟨Same.refl G, sg, fun _ _ z => z, fun a u _ z => kp a u z⟩ (R.bx.keep (Same.refl G) fun a _ u z => kp a u z) (.dct ⟨[], upd_same, rfl, rfl, rfl, List.nodup_nil, fun _ z => nomatch z⟩ .nil .nil (fun z => nomatch z)) (fun a ha => ?_) hp
  rw [List.mem_singleton.mp ha]
  exact ⟨hpn, R.gh.free hpn⟩
/-- from here on the thing of one's own in slot i is the one thing; what follows ends by return -/
def dFoc (i : Nat) (d1 : DSt Own) : DSt S := fun D ε n => (∀ j : Nat, ε[j]? ≠ some Sl.bx) ∧ ∃ s o, ε[i]? = some s ∧ s.own = some o ∧ isRef o ∧ d1 { nx := fun _ _ => False, rt := fun d _ => D.rt d n } (ε.set i .bx) o
open Classical in
noncomputable def lessF (H : Hp) (fp : Nat → List Addr) : Hp := fun a => if ∃ j, a ∈ fp j then none else H a
theorem lessF_in {H : Hp} {fp : Nat → List Addr} {a : Addr} {j : Nat} (h : a ∈ fp j) : lessF H fp a = none := if_pos ⟨j, h⟩
theorem lessF_out {H : Hp} {fp : Nat → List Addr} {a : Addr} (h : ∀ j, a ∉ fp j) : lessF H fp a = H a := if_neg fun ⟨j, z⟩ => h j z
theorem dss_foc (i : Nat) {sts : List Stmt} {t : TS} {d1 : DSt Own} (h : DSs (S := Own) K X sts t d1) (hK : X.K = K := by rfl) : DSs (S := S) K X sts t (dFoc i d1) := by
  subst hK
  refine ⟨h.ps, fun bo G0 H0 σ H G ε n D DD r l q => ?_⟩
  obtain ⟨hnb, s, o, e1, e2, ir, q⟩ := q
  obtain ⟨fp, h1, h2, h3⟩ := r.own
  obtain ⟨v, hv, hr⟩ := h3 i s o e1 e2
  obtain ⟨ad, rfl⟩ := ref_of hr ir
  have hle : ∀ a u, lessF H fp a = some u → H a = some u ∧ ∀ j, a ∉ fp j := fun a u z => by
    by_cases e : ∃ j, a ∈ fp j
    · obtain ⟨j, e⟩ := e
      rw [lessF_in e] at z
      cases z
    · have e' : ∀ j, a ∉ fp j := fun j y => e ⟨j, y⟩
      rw [lessF_out e'] at z
      exact ⟨z, e'⟩
  have r' : Rl (S := Own) X.K (some ⟨ad, fp i⟩) G (lessF H fp) σ H G (ε.set i .bx) o := by
    refine ⟨⟨Same.refl G, r.gh, fun _ _ z => z, fun a u _ z => (hle a u z).1⟩, ⟨fp i, hr, fun a ha => ha, hr.ne⟩, fun a ha => (h2 i a ha).1, by rw [List.length_set]; exact r.ln, fun j d q => ?_, fun j q => ?_, fun j o' q => ?_, ⟨fun j => if j = i then [] else fp j, fun j k a hjk ha hb => ?_, fun j a ha => ?_, fun j s' o' q hs' => ?_⟩⟩
    · rcases get_set q with ⟨rfl, _, z⟩ | ⟨hne, q⟩
      · cases z
      · exact r.im j d q
    · rcases get_set q with ⟨rfl, _, z⟩ | ⟨hne, q⟩
      · exact ⟨_, rfl, hv⟩
      · exact absurd q (hnb j)
    · rcases get_set q with ⟨rfl, _, z⟩ | ⟨hne, q⟩
      · cases z
      · exact r.rd j o' q
    · by_cases z1 : j = i
      · simp only [if_pos z1] at ha
        cases ha
      · by_cases z2 : k = i
        · simp only [if_pos z2] at hb
          cases hb
        · simp only [if_neg z1] at ha
          simp only [if_neg z2] at hb
          exact h1 j k a hjk ha hb
    · by_cases z1 : j = i
      · simp only [if_pos z1] at ha
        cases ha
      · simp only [if_neg z1] at ha
        exact ⟨(h2 j a ha).1, fun z => h1 j i a z1 ha z, lessF_in ha, (h2 j a ha).2.2.2⟩
    · rcases get_set q with ⟨rfl, _, z⟩ | ⟨hne, q⟩
      · rw [z] at hs'
        cases hs'
      · obtain ⟨w, q1, q2⟩ := h3 j s' o' q hs'
        refine ⟨w, q1, ?_⟩
        simp only [if_neg (Ne.symm hne)]
        exact q2
  refine h.ss (some ⟨ad, fp i⟩) G (lessF H fp) σ H G _ o D { nx := fun _ _ => False, rt := fun d _ => DD.rt d n } r' ⟨fun _ _ _ _ _ _ z => z.elim, fun v' G' H' d n' g b pd z => ?_, fun _ _ _ _ _ _ z => z.elim, fun _ _ _ _ _ _ z => z.elim, fun _ _ _ _ _ _ _ _ _ _ z => z.elim⟩ q
  have nf : ∀ a, H0 a ≠ none → ∀ j, a ∉ fp j := fun a z j y => z (h2 j a y).2.2.1
  have nb : ∀ a, Has bo a → ∀ j, a ∉ fp j := fun a z j y => (h2 j a y).2.1 z
  have kp : ∀ a u, (∀ j, a ∉ fp j) → H a = some u → H' a = some u := fun a u z1 z2 => g.kp a u (fun y => z1 i y) (by rw [lessF_out z1]; exact z2)
  have hHn : ∀ a, H0 a ≠ none → H a ≠ none := fun a z => by
    by_cases y : Has bo a
    · exact r.bx.some_ne y
    · exact st_ne z fun u w => r.gr.kp a u y w
  exact l.rt v' G' H' d n ⟨r.gr.gg.trans g.gg, g.gh, fun a z1 z2 => g.fr a (by rw [lessF_out (nf a z1)]; exact hHn a z1) (r.gr.fr a z1 z2), fun a u z1 z2 => kp a u (nf a (by rw [z2]; exact fun y => nomatch y)) (r.gr.kp a u z1 z2)⟩ (r.bx.keep g.gg fun a ha u y => kp a u (nb a ha) y) pd z
end
end DL

set_option Elab.async false
set_option linter.all false
set_option autoImplicit false
set_option maxRecDepth 100000
namespace DL
open PySem PySem.Spec PyProof.Rows L2 HT
section
variable {X : Cx} {S : Type} [MSt S] {K : PySem.W.Frag} {te tf : TE} {de : DEt S} {df : DFt S}
omit [MSt S] in
/-- x, y = e, [..], y a list of one's own -/
def dAsgFO (i j : Nat) (de : DEt S) (df : DFt S) : DSt S := fun D ε n => de ε n fun d n1 => df ε n1 fun ds n2 => D.nx ((ε.set i (.im d)).set j (.ow ds)) n2
theorem ds_asgFO (i j : Nat) {e f tg : Expr} {x1} {p2 pos : Pos} {dg : DGt} {ts : List Nat} (h1 : DE K X e te de) (h2 : DF K X f tf df) (hg : DG K X tg (gTup K 2 (gCons (gName i) (gCons (gName j) gNil))) dg ts)
    (hs : swapsWithSole [tg] (.Tuple [e, f] x1 p2) pos.line X.env = pure false := by rfl) (hw : swappedStores [tg] (.Tuple [e, f] x1 p2) X.env = pure none := by rfl) (ha : (assignEach [tg] X.env).map (·.2) = [assign tg X.env] := by rfl)
    (s1 : starEach [e, f] X.env = (false, eval e X.env) :: starEach [f] X.env := by rfl) (s2 : starEach [f] X.env = (false, eval f X.env) :: starEach [] X.env := by rfl) (hK : X.K = K := by rfl) :
    DS K X (.Assign [tg] (.Tuple [e, f] x1 p2) pos) (tAsg (tTup (tCons te (tCons tf tNil))) (gTup K 2 (gCons (gName i) (gCons (gName j) gNil)))) (dAsgFO i j de df) := by
  subst hK
  refine ⟨(ds_asg (de_tup (da_cons h1 (da_cons (df_de h2) da_nil s2) s1)) hg hs hw ha).ps, fun bo G0 H0 σ H G ε n D DD r l q => ?_⟩
  refine h1.se bo G0 H0 σ H G ε n _ _ r q fun v G1 H1 d n1 g1 b1 p1 q1 => ?_
  refine h2.se bo G0 H0 σ H1 G1 ε n1 _ _ (r.grow g1 b1) q1 fun a vs G2 H2 ds n2 g2 b2 hn hg hH hd q2 => ?_
  refine ⟨sz (by show 2 ≤ 100000; decide), fun p hp => ⟨p, _, rfl, .inl (.inl upd_same), rfl, _, _, rfl, _, _, rfl, rfl, ?_⟩⟩
  have kp : ∀ c u, H2 c = some u → upd H2 p (.tup [v, .ref a]) c = some u := fun c u z => by
    rw [upd_ne (ne_of_none z hp)]
    exact z
  have g3 : Grow bo G1 H1 G2 (upd H2 p (.tup [v, .ref a])) := ⟨g2.gg, fun c u z => kp c u (g2.gh c u z), g2.fr, fun c u z1 z2 => kp c u (g2.kp c u z1 z2)⟩
  exact l.nx _ _ G2 _ n2 (((r.grow g1 b1).setIm p1 i).setOw g3 (b2.keep (Same.refl G2) fun c _ u z => kp c u z) hn hg (kp _ _ hH) hd j) q2
end
end DL

set_option Elab.async false
set_option linter.all false
set_option autoImplicit false
set_option maxRecDepth 100000
namespace DL
open PySem PySem.Spec PyProof.Rows L2 HT
/-! ### defs that are run while nothing is being shown -/
structure FnG (P : Program) (w : World) (K : PySem.W.Frag) (mg : Str → Option Value) (base : Heap) (k : Nat) (f : Addr) (fd : FuncData) (ps : List Str) (sp : Sp) : Prop where
  len : ∀ vs H Q E, sp vs H Q E → vs.length = ps.length
  go : ∀ (A : Around) (outer : List Env) (s : Shared) (H : Hp) (args : Args) (us : List Value) (vs : List V) (Q : VK) (E : XK), A.guards = some [] → Room k A → Env0 P w K mg base A outer s H → BindsTo s fd args (ps.zip us) →
    Vals vs us → sp vs H Q E → codeAny (model P w) A (.call (.ref f) args) (CR CX0 outer P w H s Q E) s
theorem FnOk.g {P : Program} {w : World} {K : PySem.W.Frag} {mg : Str → Option Value} {base : Heap} {k : Nat} {f : Addr} {fd : FuncData} {ps : List Str} {sp : Sp} (F : FnOk P w K mg base CX0 k f fd ps sp) : FnG P w K mg base k f fd ps sp :=
  ⟨F.len, fun A outer s H args us vs Q E _ => F.run A outer s H args us vs Q E⟩
theorem Fun.okG {P : Program} {w : World} {K : PySem.W.Frag} {mg : Str → Option Value} {base : Heap} {x qual : Str} {st : Stmt} {f : Addr} {fd : FuncData} {N ps : List Str} {k : Nat} {sp : Sp} (F : Fun K x qual st f fd) (Sc : FnScope N ps (defScope st))
    (len : ∀ vs H Q E, sp vs H Q E → vs.length = ps.length)
    (body : ∀ (cdv : Value) (A : Around) (outer : List Env) (s : Shared) (H : Hp) (vs : List V) (Q : VK) (E : XK), A.guards = some [] → Room k (A.deeper (envOfC qual (defScope st) s.heap.objs.size f cdv)) → sp vs H Q E →
      ∃ t, PSs (cxOf CX0 P w K mg base N qual (defScope st) f cdv A outer s H E).nox (defBody st) t ∧ t { nx := fun _ H' => Q .non H', rt := Q } (L2.start N vs) H) : FnG P w K mg base (k + 1) f fd ps sp := by
  obtain ⟨oc, od, kV, doc, pm, an, cdv, ct, osl, rfl, lk, hcd⟩ := F.ex
  refine ⟨len, fun A outer s H args us vs Q E hgd hr e0 hbd rv hsp => ?_⟩
  have kept : ∀ b o, base.get? b = some o → s.heap.get? b = some o := fun b o e => (e0.bs b o e).1
  have kin : K.In s.heap := e0.mod.kin.keeps kept
  refine codeAny_call_function hr.depth (kin _ _ lk) rfl Sc.co Sc.gen rfl (PySem.W.codeRec_of kin hcd) (hbd _ _ _ _ ?_)
  refine wpAny_newFunctionEnv_cells Sc.kind (fun y hy => (Sc.par y.1 (List.of_mem_zip (a := y.1) (b := y.2) hy).1).imp id fun q => ⟨q, PySem.W.cellsFrom_some _ _ _ (.inl q)⟩) fun env he s1 x1 => ?_
  subst he
  refine ⟨(e0.mod.nolimit.keeps kept).keeps x1.toInCall.keep, codeAny_func ?_⟩
  obtain ⟨t, ht, hq⟩ := body cdv A outer s H vs Q E hgd (hr.deeper _) hsp
  refine wpAny_mono (ht.nox.run [] s1 (L2.start N vs) H _ (inv_start Sc hr.hd e0 (len _ _ _ _ hsp) rv x1) hq) (fun fl s' hs => ?_) fun e s' hs => hs
  cases fl with
  | brk => obtain ⟨_, _, _, q⟩ := hs; exact q.elim
  | cont => obtain ⟨_, _, _, q⟩ := hs; exact q.elim
  | next => obtain ⟨_, H', J, q⟩ := hs; exact ⟨V.non, H', J.os, J.bare, J.base, J.hok, rfl, q⟩
  | ret u => obtain ⟨v, _, H', J, r1, q⟩ := hs; exact ⟨v, H', J.os, J.bare, J.base, J.hok, r1, q⟩
section
variable {X : Cx} {k : Nat} {f : Addr} {fd : FuncData} {ps : List Str} {sp : Sp} {x : Str} {p pos : Pos} {e : Expr} {es : List Expr} {t : TA}
theorem pe_callG (F : FnG X.prog X.w X.K X.mg X.base k f fd ps sp) (hgd : X.A.guards = some []) (hr : Room k X.A) (hg : Gl X x) (hm : X.mg x = some (.ref f)) (hk : PySem.W.keepIn X.K (.ref f) = true) (hb : Binds X.K fd ps [])
    (ha : PA X (e :: es) t) (hdb : (x == ("__debug__" : Str)) = false := by decide) (he : starEach (e :: es) X.env = (false, eval e X.env) :: starEach es X.env := by rfl) (hpl : (backTo pos (starEach es X.env)).any (·.1) = false := by rfl) :
    PE X (.Call (.Name x p) (e :: es) [] pos) (tCall sp [] E0 t) := by
  refine ⟨fun pins s σ H Q I h => wpAny_Call_Name_kw (ld_glob I hg hm (PySem.W.callWith_K (h₀ := X.base) I.ok.mod.kin hk (thn (ha.run pos pins s σ H _ I h) fun us s1 ⟨vs, H1, J, r, q⟩ => ⟨J.kIn, ?_⟩) he hpl) hdb)⟩
  have r2 : Vals (vs ++ []) (us ++ []) := r.append .nil
  refine wpAny_call (codeAny_mono (F.go X.A X.stack s1 H1 ⟨us, []⟩ (us ++ []) (vs ++ []) Q E0 hgd hr J.env0 (hb s1 us J.kIn (by rw [← r2.length]; exact F.len _ _ _ _ q)) r2 q) fun res s' hq => ?_)
  cases res with
  | error err => exact pass0 pins σ H1 s1 err s' J hq
  | ok fl =>
    cases fl with
    | ret u => exact J.after hq
    | _ => exact hq.elim
end
section
variable {S : Type} [MSt S]
theorem def_okG {P : Program} {w : World} {K : PySem.W.Frag} {mg : Str → Option Value} {base : Heap} {x qual : Str} {st : Stmt} {f : Addr} {fd : FuncData} {N ps : List Str} {k m : Nat} {con : ConS S} (F : Fun K x qual st f fd) (Sc : FnScope N ps (defScope st)) (hm : ps.length = m)
    (h : ∀ (cdv : Value) (A : Around) (outer : List Env) (s : Shared) (H : Hp) (E : XK), A.guards = some [] → Room k (A.deeper (envOfC qual (defScope st) s.heap.objs.size f cdv)) →
      ∃ ts ds, DSs K (cxOf CX0 P w K mg base N qual (defScope st) f cdv A outer s H E).nox (defBody st) ts ds ∧ ∀ (as : List Ag) (n : S) (P : PyData → S → Prop), as.length = m → con as n P → ds { nx := fun _ n => P .none n, rt := P } (en0 N as) n) : FnG P w K mg base (k + 1) f fd ps (spD K m con) := by
  refine DL.Fun.okG F Sc (fun vs H Q E h => ?_) (fun cdv A outer s H vs Q E hgd hr hsp => ?_)
  · obtain ⟨_, _, _, _, _, q, _⟩ := h
    exact q.trans hm.symm
  · obtain ⟨bo, G, as, n, P', hl, ha, sg, hb, hgb, hc, kk⟩ := hsp
    obtain ⟨ts, ds, hD, hds⟩ := h cdv A outer s H E hgd hr
    have hN : as.length ≤ N.length := by
      have h1 := congrArg List.length Sc.pre
      have h2 := (ags_len ha).symm.trans hl
      rw [List.length_take] at h1
      omega
    exact ⟨ts, hD.ps, hD.ss bo G H (L2.start N vs) H G (en0 N as) n _ { nx := fun _ n => P' .none n, rt := P' } (rl_start hN ha sg hb hgb) ⟨fun σ H' G' ε n r q => kk .non G' H' .none n r.gr r.bx .non q, fun v G' H' d n g b p q => kk v G' H' d n g b p q, fun _ _ _ _ _ _ q => q.elim, fun _ _ _ _ _ _ q => q.elim, fun _ _ _ _ _ _ _ _ _ _ q => q.elim⟩ (hds as n P' ((ags_len ha).symm.trans hl) hc)⟩
structure KfG (P : Program) (w : World) (K : PySem.W.Frag) (mg : Str → Option Value) (base : Heap) (x : Str) (k m : Nat) (con : ConS S) : Prop where
  ex : ∃ (f : Addr) (fd : FuncData) (ps : List Str), FnG P w K mg base k f fd ps (spD K m con) ∧ mg x = some (.ref f) ∧ PySem.W.keepIn K (.ref f) = true ∧ Binds K fd ps []
theorem de_callG {X : Cx} {K : PySem.W.Frag} {x : Str} {k m : Nat} {con : ConS S} {e : Expr} {es : List Expr} {ta : TA} {da : DAt S} {p pos : Pos} (F : KfG X.prog X.w K X.mg X.base x k m con) (hgd : X.A.guards = some []) (hr : Room k X.A) (hg : Gl X x) (h : DA K X (e :: es) ta da) (hdb : (x == ("__debug__" : Str)) = false := by decide)
    (he : starEach (e :: es) X.env = (false, eval e X.env) :: starEach es X.env := by rfl) (hpl : (backTo pos (starEach es X.env)).any (·.1) = false := by rfl) (hK : X.K = K := by rfl) :
    DE K X (.Call (.Name x p) (e :: es) [] pos) (tCall (spD K m con) [] E0 ta) (dCall m con da) := by
  subst hK
  obtain ⟨f, fd, ps, F1, F2, F3, F4⟩ := F.ex
  exact ⟨pe_callG F1 hgd hr hg F2 F3 F4 h.pa hdb he hpl, se_call h.se⟩
end
/-! ### repr of data -/
def Shows (d : PyData) : Prop := d.showable = true ∧ d.hasDict = false ∧ d.depth ≤ 60 ∧ d.shown.length ≤ sizeLine
def sqD (k : Bool) (ds : List PyData) : PyData := if k then .tuple ds else .list ds
def rRepr (K : PySem.W.Frag) : List V → Hp → VK → Prop := fun vs H Q => ∃ (a : Addr) (d : PyData), vs = [.ref a] ∧ L2.Dp K H (.ref a) d ∧ Shows d ∧ Q (.str d.shown) H
theorem call_repr {X : Cx} (hgd : X.A.guards = some []) (hu : X.A.units + 64 < cLine) : CallR X (.builtin "repr") (rRepr X.K) := by
  intro pins s σ H xs us Q I r h
  obtain ⟨a, d, rfl, hd, hs, q⟩ := h
  obtain ⟨u, rfl, rv⟩ := vals1 r
  obtain ⟨as, hr⟩ := Dp.reads I d _ u hd rv
  cases (show u = Value.ref a from rv)
  have := hs.2.2.1
  exact repr_of_reads' hr hs.1 (fun e => by rw [hs.2.1] at e; cases e) hgd (by omega) (fun _ _ e => e) (fun h' t tk hk => ⟨.str _, H, I.kept hk, ⟨_, rfl⟩, q⟩) hs.2.2.2
def fRepr : FQ := fun k ds C => Shows (sqD k ds) ∧ C (.str (sqD k ds).shown)
section
variable {S : Type} [MSt S] {X : Cx} {K : PySem.W.Frag} {e : Expr} {te : TE} {dq : DQt S} {p pos : Pos}
theorem de_repr (hgd : X.A.guards = some []) (hu : X.A.units + 64 < cLine) (hg : Gl X "repr") (hm : X.mg "repr" = none) (h : DQ K X e te dq) (he : starEach (e :: []) X.env = (false, eval e X.env) :: starEach [] X.env := by rfl) (hpl : (backTo pos (starEach [] X.env)).any (·.1) = false := by rfl) (hK : X.K = K := by rfl) :
    DE K X (.Call (.Name "repr" p) [e] [] pos) (tCB (rRepr K) (tCons te tNil)) (dCbQ fRepr dq) := by
  subst hK
  refine de_cbq (call_repr hgd hu) (fun G H a vs k ds C Q s sq ha h kk => ⟨a, sqD k ds, rfl, ?_, h.1, kk _ G H _ (Grow.refl s) (.str _) h.2⟩) hg hm PyProof.Rows.boot_repr h (by decide) (by decide) he hpl
  have ha' := (dpa_mono s ha).l2
  cases k with
  | true => exact .tup (sqt_mono s sq) ha'
  | false => exact .lst (.inl (.inl sq)) ha'
end
/-! ### the law's call -/
theorem law_callG {P : Program} {w : World} {K : PySem.W.Frag} {mg mb : Str → Option Value} {k : Nat} {fa a : Addr} {fd : FuncData} {x : Str} {sp : Sp} {s₁ : Shared} {vs : List Value} {ns : List Int}
    (kin : K.In s₁.heap) (hns : s₁.heap.Ns mainGlobals mg) (hb : s₁.heap.Ns builtinsNs mb) (hbb : ∀ x : Str, x ≠ "__name__" → mb x = bootBuiltins x) (hlim : s₁.heap.NoLimit) (hg : s₁.gens = #[])
    (ha : s₁.heap.get? a = some { cls := .type "list", data := .seq vs.toArray }) (hi : IntsAre vs ns) (hl : ns.length ≤ sizeLine) (hr : Room k callerA)
    (F : ∀ base : Heap, K.In base → base.Ns mainGlobals mg → FnG P w K mg base k fa fd [x] sp) (bind : ∀ (s : Shared) (u : Value), BindsTo s fd ⟨[u], []⟩ [(x, u)])
    (hsp : ∀ H : Hp, Only H → SqL K H a (ns.map V.int) → sp [.ref a] H (fun v _ => v = .bl true) fun _ _ _ => False) :
    codeAny (model P w) callerA (.call (.ref fa) ⟨[.ref a], []⟩) (fun r s' => r = .ok (.ret (.bool true)) ∧ OldK s₁.heap s'.heap ∧ s'.os = s₁.os ∧ AllBare s'.gens) s₁ := by
  -- a heap that tracks the script at most
  suffices core : ∀ H : Hp, Only H → SqL K H a (ns.map V.int) → HOk P w H s₁.heap → (∀ b, H b ≠ none → b = a ∧ K.lookup a = none) → codeAny (model P w) callerA (.call (.ref fa) ⟨[.ref a], []⟩) (fun r s' => r = .ok (.ret (.bool true)) ∧ OldK s₁.heap s'.heap ∧ s'.os = s₁.os ∧ AllBare s'.gens) s₁ by
    have rv := vals_ints hi
    cases hk : K.lookup a with
    | some o =>
      have e := kin a o hk
      rw [ha] at e
      cases e
      exact core (fun _ => none) (fun _ => .inl rfl) (.inr ⟨_, vs.toArray, _, hk, rfl, rfl, rfl, by rw [List.size_toArray, hi.length]; exact hl, by simpa using rv⟩) (fun b u z => nomatch (z : (none : Option HO) = some u)) (fun b z => absurd rfl z)
    | none =>
      let ob : Obj := { cls := .type "list", data := .seq vs.toArray }
      refine core (fun b => if b = a then some (.frz ob (.lst (ns.map V.int))) else none) (fun b => ?_) (.inl (.inr ⟨ob, if_pos rfl⟩)) (fun b u z => ?_) (fun b z => ?_)
      all_goals by_cases hba : b = a
      · exact .inr ⟨_, _, if_pos hba⟩
      · exact .inl (if_neg hba)
      · have z' := (if_pos hba).symm.trans z
        cases z'
        subst hba
        exact ⟨ha, by rw [List.length_map]; exact hl, vs, _, rv, ha⟩
      · cases (if_neg hba).symm.trans z
      · exact ⟨hba, hk⟩
      · exact absurd (if_neg hba) z
  intro H hO hS hok only
  have un_ : ∀ {b : Addr}, (b ≠ a ∨ K.lookup a ≠ none) → H b = none := fun {b} h => by
    cases q : H b with
    | none => rfl
    | some u =>
      have o := only b (by rw [q]; exact fun z => nomatch z)
      rcases h with h | h
      · exact absurd o.1 h
      · exact absurd o.2 h
  have dicts : ∀ {b : Addr} {m : Str → Option Value}, s₁.heap.Ns b m → (hidT s₁.heap H).Ns b m := fun {b m} ⟨o, es, ep, e, d, r⟩ => ⟨o, es, ep, hidT_get e (un_ (.inl fun z => by
    subst z
    rw [ha] at e
    cases e
    cases d)), d, r⟩
  have kin' : K.In (hidT s₁.heap H) := fun b o e => hidT_get (kin b o e) (by
    by_cases z : b = a
    · subst z
      exact un_ (.inr (by rw [e]; exact fun z => nomatch z))
    · exact un_ (.inl z))
  have mod : Mod K mg (hidT s₁.heap H) := ⟨kin', dicts hns, ⟨mb, dicts hb, hbb⟩, let ⟨mc, h1, h2⟩ := hlim; ⟨mc, dicts h1, h2⟩⟩
  have e0 : Env0 P w K mg (hidT s₁.heap H) callerA [] s₁ H := ⟨rfl, mod, fun b o e => of_hidT e, Nat.le_of_eq (hidT_size _ _), trivial, (fun b hb => absurd (show b ∈ ([] : List Addr) from hb) (by simp)), hok, .of_eq hg⟩
  refine codeAny_mono ((F _ kin' (dicts hns)).go callerA [] s₁ H ⟨[.ref a], []⟩ [.ref a] [.ref a] _ _ rfl hr e0 (bind s₁ (.ref a)) (.cons rfl .nil) (hsp H hO hS)) fun r s' h => ?_
  cases r with
  | error e => exact (show False from h).elim
  | ok fl =>
    cases fl with
    | ret u =>
      obtain ⟨v, H', os, bare, un, hok', r', q⟩ := h
      have q' : v = .bl true := q
      subst q'
      cases (show u = Value.bool true from r')
      refine ⟨rfl, OldK.of_keep fun b o e => ?_, os, bare⟩
      rcases hO b with z | ⟨ob, xs, z⟩
      · exact un.keep b o e z (fun y => absurd (show b ∈ ([] : List Addr) from y) (by simp)) (by simp)
      · have e1 := (hok b _ z).1
        rw [e] at e1
        cases e1
        exact (hok' b _ (un.frzs b _ _ z)).1
    | _ => exact h.elim
theorem walk_ofG {l : PySem.W.OpenLaw} {n k : Nat} {q : Program} {loose : List Str} {XP : (Str → Option Value) → Heap → Prop} {YP : World → Heap → Prop} {d : DefRec} {K : Params → PySem.W.Frag} {sp : World → Sp} {x : Str}
    (hn : l.most = some n) (hn2 : n ≤ sizeLine) (hdf : d.params.defaults = []) (hr : Room k callerA) (hY : ∀ (w : World) (h : Heap), YP w h → (K w.params).In h)
    (F : ∀ (w : World) (mg : Str → Option Value) (fa : Addr) (h : Heap), (K w.params).In h → h.Ns mainGlobals mg → mg d.name = some (.ref fa) →
      ∃ fd : FuncData, (∀ (s : Shared) (u : Value), BindsTo s fd ⟨[u], []⟩ [(x, u)]) ∧ ∀ base : Heap, (K w.params).In base → base.Ns mainGlobals mg → FnG l.prog w (K w.params) mg base k fa fd [x] (sp w))
    (hsp : ∀ (w : World) (H : Hp) (a : Addr) (ns : List Int), ns.length ≤ n → Only H → SqL (K w.params) H a (ns.map V.int) → sp w [.ref a] H (fun v _ => v = .bl true) fun _ _ _ => False) :
    PySem.W.WalkO q loose XP YP l.row.toRowW d [] (fun f vs => PySem.call f vs) :=
  Att.attach_call hn hdf fun w s₀ s₁ mg mb fa o pm cd doc a vs ns G Y ho hd hcd hmg hobj hints hlen hg => by
    obtain ⟨fd, hb, hF⟩ := F w mg fa _ (hY w _ Y) G.T.g hmg
    exact law_callG (hY w _ Y) G.T.g G.T.b G.T.builtins G.T.nolimit hg hobj hints (Nat.le_trans hlen hn2) hr hF hb fun H hO hS => hsp w H a ns hlen hO hS
/-! ### how long a thing is shown -/
def joinLen (xs : List Str) : Nat := (xs.map fun x => x.length + 2).sum
theorem shownAll_map : ∀ ds : List PyData, PyData.shownAll ds = ds.map PyData.shown
  | [] => rfl
  | d :: ds => by
    simp only [PyData.shownAll, List.map_cons, shownAll_map ds]
end DL

set_option Elab.async false
set_option linter.all false
set_option autoImplicit false
set_option maxRecDepth 100000
namespace DL
open PySem PySem.Spec PyProof.Rows L2 HT
theorem textFrom_le : ∀ (ts : List Str) (L k : Nat) (acc : Str), (∀ t ∈ ts, t.length ≤ L) → (textFrom k acc ts).length ≤ acc.length + ts.length * (L + 2)
  | [], L, k, acc, _ => by
    show acc.length ≤ _
    omega
  | t :: r, L, k, acc, h => by
    have h1 := textFrom_le r L (k + 1) (acc ++ (if k > 0 then ", " else "" : String) ++ t) fun u hu => h u (List.mem_cons_of_mem _ hu)
    have e : (acc ++ (if k > 0 then ", " else "" : String) ++ t).length = acc.length + (if k > 0 then 2 else 0) + t.length := by
      rw [strLen_append, strLen_append]
      split <;> rfl
    have h2 := h t List.mem_cons_self
    have h3 : (if k > 0 then 2 else 0 : Nat) ≤ 2 := by split <;> omega
    show (textFrom (k + 1) _ r).length ≤ _
    rw [e] at h1
    rw [List.length_cons, Nat.add_mul]
    omega
/-- shown in so many signs, of so many levels -/
def Shw (L k : Nat) (d : PyData) : Prop := d.showable = true ∧ d.hasDict = false ∧ d.depth ≤ k ∧ d.shown.length ≤ L
theorem Shw.shows {L k : Nat} {d : PyData} (h : Shw L k d) (hL : L ≤ 16000000) (hk : k ≤ 60) : Shows d := ⟨h.1, h.2.1, Nat.le_trans h.2.2.1 hk, Nat.le_trans h.2.2.2 (Nat.le_trans hL (by decide))⟩
theorem Shw.mono {L M k j : Nat} {d : PyData} (h : Shw L k d) (hL : L ≤ M) (hk : k ≤ j) : Shw M j d := ⟨h.1, h.2.1, Nat.le_trans h.2.2.1 hk, Nat.le_trans h.2.2.2 hL⟩
theorem Shw.int {i : Int} (h : i.natAbs < 10 ^ 20) : Shw 21 0 (.int i) := by
  refine ⟨?_, rfl, Nat.le_refl _, ?_⟩
  · show decide (i.natAbs.log2 < 1920) = true
    refine decide_eq_true ?_
    by_cases z : i.natAbs = 0
    · rw [z]
      decide
    · refine (Nat.log2_lt z).mpr (Nat.lt_of_lt_of_le h ?_)
      exact Nat.le_trans (by decide : 10 ^ 20 ≤ 2 ^ 80) (Nat.pow_le_pow_right (by decide) (by omega : 80 ≤ 1920))
  · show (Str.ofString (toString i)).length ≤ 21
    rw [PySem.ofString_length]
    exact int_text_length_le10 (by decide) h
theorem Shw.none : Shw 4 0 .none := ⟨rfl, rfl, Nat.le_refl _, by decide⟩
theorem Shw.bool (b : Bool) : Shw 5 0 (.bool b) := ⟨rfl, rfl, Nat.le_refl _, by cases b <;> decide⟩
theorem showAll {L k : Nat} : ∀ ds : List PyData, (∀ x ∈ ds, Shw L k x) → PyData.showableAll ds = true ∧ PyData.hasDictAll ds = false ∧ PyData.depthAll ds ≤ k ∧ (∀ t ∈ PyData.shownAll ds, t.length ≤ L) ∧ (PyData.shownAll ds).length = ds.length
  | [], _ => ⟨rfl, rfl, Nat.zero_le _, (fun _ h => nomatch h), rfl⟩
  | d :: ds, h => by
    obtain ⟨h1, h2, h3, h4, h5⟩ := showAll ds fun x hx => h x (List.mem_cons_of_mem _ hx)
    have h0 := h d List.mem_cons_self
    refine ⟨?_, ?_, ?_, ?_, ?_⟩
    · show (d.showable && PyData.showableAll ds) = true
      rw [h0.1, h1]
      rfl
    · show (d.hasDict || PyData.hasDictAll ds) = false
      rw [h0.2.1, h2]
      rfl
    · exact Nat.max_le.mpr ⟨h0.2.2.1, h3⟩
    · intro t ht
      rcases List.mem_cons.mp ht with rfl | ht
      · exact h0.2.2.2
      · exact h4 t ht
    · show (PyData.shownAll ds).length + 1 = ds.length + 1
      rw [h5]
theorem Shw.list {L k m : Nat} {ds : List PyData} (hm : ds.length ≤ m) (h : ∀ x ∈ ds, Shw L k x) : Shw (m * (L + 2) + 2) (k + 1) (.list ds) := by
  obtain ⟨h1, h2, h3, h4, h5⟩ := showAll ds h
  refine ⟨h1, h2, Nat.succ_le_succ h3, ?_⟩
  show (textFrom 0 "[" (PyData.shownAll ds) ++ "]").length ≤ _
  rw [strLen_append]
  have h6 := textFrom_le (PyData.shownAll ds) L 0 "[" h4
  rw [h5] at h6
  have h7 : ds.length * (L + 2) ≤ m * (L + 2) := Nat.mul_le_mul_right _ hm
  have e1 : ("[" : Str).length = 1 := rfl
  have e2 : ("]" : Str).length = 1 := rfl
  omega
theorem piled_le {L : Nat} : ∀ ts : List Str, (∀ t ∈ ts, t.length ≤ L) → piled ts ≤ ts.length * (L + 2)
  | [], _ => Nat.zero_le _
  | t :: r, h => by
    have h1 := piled_le r fun u hu => h u (List.mem_cons_of_mem _ hu)
    have h2 := h t List.mem_cons_self
    have e : piled (t :: r) = t.length + 2 + piled r := by
      unfold piled
      rw [List.map_cons, List.sum_cons]
    rw [e, List.length_cons, Nat.add_mul]
    omega
theorem Shw.tuple {L k m : Nat} {ds : List PyData} (hm : ds.length ≤ m) (h : ∀ x ∈ ds, Shw L k x) : Shw (m * (L + 2) + 3) (k + 1) (.tuple ds) := by
  obtain ⟨h1, h2, h3, h4, h5⟩ := showAll ds h
  refine ⟨h1, h2, Nat.succ_le_succ h3, ?_⟩
  show (("(" : Str) ++ Str.join ", " (PyData.shownAll ds) ++ (if (PyData.shownAll ds).length == 1 then ",)" else ")" : String)).length ≤ _
  rw [strLen_append, strLen_append]
  have h7 : ds.length * (L + 2) ≤ m * (L + 2) := Nat.mul_le_mul_right _ hm
  have e1 : ("(" : Str).length = 1 := rfl
  have e2 : (Str.ofString (if (PyData.shownAll ds).length == 1 then ",)" else ")")).length ≤ 2 := by split <;> decide
  have h8 : (Str.join ", " (PyData.shownAll ds)).length ≤ ds.length * (L + 2) := by
    by_cases z : PyData.shownAll ds = []
    · rw [z]
      exact Nat.zero_le _
    · have h9 := join_length_add _ z
      have h10 := piled_le (PyData.shownAll ds) h4
      rw [h5] at h10
      omega
  omega
end DL

set_option Elab.async false
set_option linter.all false
set_option autoImplicit false
set_option maxRecDepth 100000
set_option maxHeartbeats 400000
namespace DL
open PySem PySem.Spec PyProof.Rows L2 HT
/-! ### zip of two and of three, each a list or a tuple -/
def SqZ (K : PySem.W.Frag) (H : Hp) : Bool → Addr → List V → Prop
  | true, a, xs => SqT K H a xs
  | false, a, xs => SqL K H a xs
def ItK (h : Heap) : Bool → Addr → Addr → Nat → Prop
  | true, it, a, i => h.IsTupleIter it a i
  | false, it, a, i => h.IsListIter it a i
def IsK (h : Heap) : Bool → Addr → Array Value → Prop
  | true, a, vs => h.IsTuple a vs
  | false, a, vs => h.IsList a vs
def obK : Bool → Addr → Obj
  | true, t => { cls := .type "tuple_iterator", data := .fields #[.ref t, .int 0 0] }
  | false, l => { cls := .type "list_iterator", data := .fields #[.ref l, .int 0 0] }
theorem draws_K {prog : Program} {w : World} {A : Around} (hh : A.handled = none) (t : Bool) (it l : Addr) (hne : l ≠ it) (items : Array Value) :
    Draws prog w A it [it, l] items.size (fun i v => items[i]? = some v) (fun i h => ItK h t it l i ∧ IsK h t l items) := by
  cases t with
  | true => exact Draws.tuple hh it l hne items
  | false => exact Draws.list hh it l hne items
theorem begins_K (t : Bool) (l : Addr) (items : Array Value) : Begins (.ref l) (obK t l) fun h => IsK h t l items := by
  cases t with
  | true => exact begins_tuple l items
  | false => exact begins_list l items
theorem itK_new {h : Heap} {t : Bool} {it a : Addr} (e : h.get? it = some (obK t a)) : ItK h t it a 0 := by
  cases t with
  | true => exact ⟨_, e, rfl, rfl⟩
  | false => exact ⟨_, e, rfl, rfl⟩
theorem itK_at {h h' : Heap} {t : Bool} {it a : Addr} {i : Nat} (x : ItK h t it a i) (k : ∀ o, h.get? it = some o → h'.get? it = some o) : ItK h' t it a i := by
  cases t with
  | true => exact Heap.IsTupleIter.at x k
  | false => exact Heap.IsListIter.at x k
theorem itK_obj {h : Heap} {t : Bool} {it a : Addr} {i : Nat} (x : ItK h t it a i) : ∃ o, h.get? it = some o ∧ ∀ v, o.data ≠ .cell v := by
  cases t with
  | true =>
    obtain ⟨o, e, _, d⟩ := x
    exact ⟨o, e, fun v q => by rw [d] at q; cases q⟩
  | false =>
    obtain ⟨o, e, _, d⟩ := x
    exact ⟨o, e, fun v q => by rw [d] at q; cases q⟩
section
variable {X : Cx} {pins : List (Addr × Obj)} {σ : L2.St} {H : Hp} {s : Shared} {t : Bool} {a : Addr} {xs ys : List V}
theorem inv_K (I : Inv X pins σ H s) (h : SqZ X.K H t a xs) : ∃ its : List Value, Vals xs its ∧ IsK s.heap t a its.toArray ∧ a < s.heap.objs.size := by
  cases t with
  | true =>
    obtain ⟨its, rv, p, _⟩ := I.tuple h
    obtain ⟨o, ho, _⟩ := id p
    exact ⟨its, rv, p, Heap.lt_size ho⟩
  | false =>
    obtain ⟨its, rv, p, _⟩ := I.list h
    exact ⟨its, rv, p.isList, p.lt⟩
theorem inv_Kinj (I : Inv X pins σ H s) (h : SqZ X.K H t a xs) (h' : SqZ X.K H t a ys) : xs = ys := by
  cases t with
  | true => exact I.tuple_inj h h'
  | false => exact I.list_inj h h'
end
/-- three, as they stand at each turn; N turns in all -/
def ItZ3 (K : PySem.W.Frag) (N : Nat) (t1 : Bool) (a : Addr) (t2 : Bool) (b : Addr) (t3 : Bool) (c : Addr) : It :=
  ⟨fun i H => i < N ∧ ∃ (xs ys zs : List V) (x y z : V), SqZ K H t1 a xs ∧ SqZ K H t2 b ys ∧ SqZ K H t3 c zs ∧ xs[i]? = some x ∧ ys[i]? = some y ∧ zs[i]? = some z,
    fun i H v H' => ∃ T x y z, v = .ref T ∧ H T = none ∧ H' = upd H T (.tup [x, y, z]) ∧ (∀ l, SqZ K H t1 a l → l[i]? = some x) ∧ (∀ l, SqZ K H t2 b l → l[i]? = some y) ∧ ∀ l, SqZ K H t3 c l → l[i]? = some z,
    fun i H => N ≤ i ∧ ∃ xs ys zs : List V, SqZ K H t1 a xs ∧ SqZ K H t2 b ys ∧ SqZ K H t3 c zs ∧ N = min (min xs.length ys.length) zs.length⟩
theorem turn_z3 {P : Program} {w : World} {K : PySem.W.Frag} {elts : List Expr} {kk N : Nat} {tpos : Pos} {t1 t2 t3 : Bool} {a b c z TI TO i1 i2 i3 : Addr} (S : ZipSep3 z TI TO i1 i2 i3 [i1, a] [i2, b] [i3, c]) (n1 : a ≠ i1) (n2 : b ≠ i2) (n3 : c ≠ i3) :
    Turn P w K (.Tuple elts kk tpos) (ItZ3 K N t1 a t2 b t3 c) [z, TI, TO, i1, i2, i3] z (fun i h => i ≤ N ∧ IsZip h z TI TO .none ∧ IsTupOf3 h TI (.ref i1) (.ref i2) (.ref i3) ∧ (∃ x y u, IsTupOf3 h TO x y u) ∧ ItK h t1 i1 a i ∧ ItK h t2 i2 b i ∧ ItK h t3 i3 c i) where
  mem := by simp
  obj := fun i h st q hq => by
    obtain ⟨_, hz, hTI, ⟨x, y, u, hTO⟩, g1, g2, g3⟩ := st
    simp only [List.mem_cons, List.not_mem_nil, or_false] at hq
    rcases hq with e | e | e | e | e | e <;> rw [e]
    · exact ⟨_, hz, fun v q => nomatch q⟩
    · exact ⟨_, hTI, fun v q => nomatch q⟩
    · exact ⟨_, hTO, fun v q => nomatch q⟩
    · exact itK_obj g1
    · exact itK_obj g2
    · exact itK_obj g3
  keep := fun i h h' st k => by
    obtain ⟨hi, hz, hTI, ⟨x, y, u, hTO⟩, g1, g2, g3⟩ := st
    exact ⟨hi, k z (by simp) _ hz, k TI (by simp) _ hTI, ⟨x, y, u, k TO (by simp) _ hTO⟩, itK_at g1 (k i1 (by simp)), itK_at g2 (k i2 (by simp)), itK_at g3 (k i3 (by simp))⟩
  item := by
    intro X hP hw hK hc i pins s σ H E I hf st hg
    subst hP hw hK
    obtain ⟨hi, hz, hTI, hTO, g1, g2, g3⟩ := st
    obtain ⟨hN, xs, ys, zs, x, y, u, qx, qy, qz, ex, ey, ez⟩ := hg
    obtain ⟨l1, r1, p1, _⟩ := inv_K I qx
    obtain ⟨l2, r2, p2, _⟩ := inv_K I qy
    obtain ⟨l3, r3, p3, _⟩ := inv_K I qz
    obtain ⟨v1, e1, rv1⟩ := r1.get ex
    obtain ⟨v2, e2, rv2⟩ := r2.get ey
    obtain ⟨v3, e3, rv3⟩ := r3.get ez
    have b1 := (List.getElem?_eq_some_iff.mp e1).1
    have b2 := (List.getElem?_eq_some_iff.mp e2).1
    have b3 := (List.getElem?_eq_some_iff.mp e3).1
    have hh : X.A.in1.handled = none := I.ok.hd hc
    refine (GoesN.zip3 (prog := X.prog) (w := X.w) (A := X.A) S (draws_K hh t1 i1 a n1 l1.toArray) (draws_K hh t2 i2 b n2 l2.toArray) (draws_K hh t3 i3 c n3 l3.toArray)).goes i s _ E (by simp only [List.size_toArray]; omega) ⟨hz, hTI, hTO, ⟨g1, p1⟩, ⟨g2, p2⟩, ⟨g3, p3⟩⟩ fun v h' tk hY st' hk htk => ?_
    obtain ⟨T, w1, w2, w3, rfl, hT, f1, f2, f3, hTup⟩ := hY
    obtain ⟨hz', hTI', hTO', ⟨g1', _⟩, ⟨g2', _⟩, ⟨g3', _⟩⟩ := st'
    have c1 : w1 = v1 := by simpa [e1] using f1.symm
    have c2 : w2 = v2 := by simpa [e2] using f2.symm
    have c3 : w3 = v3 := by simpa [e3] using f3.symm
    subst c1 c2 c3
    have new : ObjOk X.prog X.w (upd H T (.tup [x, y, u])) h' T (.tup [x, y, u]) := ⟨by show 3 ≤ sizeLine; decide, [w1, w2, w3], .cons rv1 (.cons rv2 (.cons rv3 .nil)), hTup⟩
    have I1 : Inv X pins σ (upd H T (.tup [x, y, u])) { s with heap := h', toks := tk } := I.turnedNew (t' := tk) (ch := [z, TO, i1, i2, i3]) hk (fun q hq => hf q (by
      simp only [List.mem_cons, List.not_mem_nil, or_false] at hq ⊢
      rcases hq with e | e | e | e | e <;> simp [e])) hT new
    have hlt : ∀ q ∈ [z, TI, TO, i1, i2, i3], q < s.heap.objs.size := fun q hq => by
      obtain ⟨x0, y0, u0, hTO0⟩ := hTO
      simp only [List.mem_cons, List.not_mem_nil, or_false] at hq
      rcases hq with e | e | e | e | e | e <;> rw [e]
      · exact Heap.lt_size hz
      · exact Heap.lt_size hTI
      · exact Heap.lt_size hTO0
      · obtain ⟨o, e, _⟩ := itK_obj g1
        exact Heap.lt_size e
      · obtain ⟨o, e, _⟩ := itK_obj g2
        exact Heap.lt_size e
      · obtain ⟨o, e, _⟩ := itK_obj g3
        exact Heap.lt_size e
    refine ⟨.ref T, _, I1, rfl, ⟨T, x, y, u, rfl, I.hok.fresh hT, rfl, fun l hl => by rw [inv_Kinj I hl qx]; exact ex, fun l hl => by rw [inv_Kinj I hl qy]; exact ey, fun l hl => by rw [inv_Kinj I hl qz]; exact ez⟩, ⟨hN, hz', hTI', hTO', g1', g2', g3'⟩, fun q hq => ?_⟩
    rw [upd_ne (fun e => by have := hlt q hq; rw [e] at this; exact absurd hT (Nat.not_le.mpr this))]
    exact (hf q hq).1
  done := by
    intro X hP hw hK hc i pins s σ H E I hf st hg
    subst hP hw hK
    obtain ⟨hi, hz, hTI, hTO, g1, g2, g3⟩ := st
    obtain ⟨hN, xs, ys, zs, qx, qy, qz, eN⟩ := hg
    obtain ⟨l1, r1, p1, _⟩ := inv_K I qx
    obtain ⟨l2, r2, p2, _⟩ := inv_K I qy
    obtain ⟨l3, r3, p3, _⟩ := inv_K I qz
    have hh : X.A.in1.handled = none := I.ok.hd hc
    have en : i = min (min l1.toArray.size l2.toArray.size) l3.toArray.size := by
      have := r1.length
      have := r2.length
      have := r3.length
      simp only [List.size_toArray]
      omega
    refine wpAny_mono ((GoesN.zip3 (prog := X.prog) (w := X.w) (A := X.A) (elts := elts) (x1 := kk) (pos := tpos) S (draws_K hh t1 i1 a n1 l1.toArray) (draws_K hh t2 i2 b n2 l2.toArray) (draws_K hh t3 i3 c n3 l3.toArray)).stops s (fun s1 => Inv X pins σ H s1) E (by
      rw [← en]
      exact ⟨hz, hTI, hTO, ⟨g1, p1⟩, ⟨g2, p2⟩, ⟨g3, p3⟩⟩) fun h' tk hk htk => I.turnedL (t' := tk) (ch := [z, TO, i1, i2, i3]) hk (fun q hq => hf q (by
      simp only [List.mem_cons, List.not_mem_nil, or_false] at hq ⊢
      rcases hq with e | e | e | e | e <;> simp [e]))) (fun r s1 h => h) fun _ _ e => e
  self := fun A i s Q E st h => wpAny_pyIter_zip st.2.1 h
theorem vals_cons3 {v : V} {vs : List V} {us : List Value} (h : Vals (v :: vs) us) : ∃ u us', us = u :: us' ∧ RelV v u ∧ Vals vs us' := by
  cases h with
  | cons r rr => exact ⟨_, _, rfl, r, rr⟩
def iZip3 (K : PySem.W.Frag) (ta : TA) : TI := fun σ H R => ta σ H fun vs H1 => ∃ t1 a xs t2 b ys t3 c zs, vs = [.ref a, .ref b, .ref c] ∧ SqZ K H1 t1 a xs ∧ SqZ K H1 t2 b ys ∧ SqZ K H1 t3 c zs ∧ R (ItZ3 K (min (min xs.length ys.length) zs.length) t1 a t2 b t3 c) H1
theorem pi_zip3 {X : Cx} {e e2 e3 : Expr} {ta : TA} {p pos tpos : Pos} {elts : List Expr} {kk : Nat} (hg : Gl X "zip") (hm : X.mg "zip" = none) (ha : PA X [e, e2, e3] ta)
    (hs : starEach [e, e2, e3] X.env = (false, eval e X.env) :: starEach [e2, e3] X.env := by rfl) (hpl : (backTo pos (starEach [e2, e3] X.env)).any (·.1) = false := by rfl) :
    PI X (.Tuple elts kk tpos) (.Call (.Name "zip" p) [e, e2, e3] [] pos) (iZip3 X.K ta) := by
  refine ⟨fun pins s σ H R I h => ?_⟩
  refine Call_ (ld_blt I hg hm PyProof.Rows.boot_zip (PyProof.Rows.callWith_type1 (thn (ha.run pos pins s σ H _ I h) fun us s1 ⟨vs, H1, I1, r1, q1⟩ => ?_) hs hpl))
  obtain ⟨t1, a, xs, t2, b, ys, t3, c, zs, rfl, qx, qy, qz, q⟩ := q1
  obtain ⟨l1, v1, p1, m1⟩ := inv_K I1 qx
  obtain ⟨l2, v2, p2, m2⟩ := inv_K I1 qy
  obtain ⟨l3, v3, p3, m3⟩ := inv_K I1 qz
  obtain ⟨u1, us1, rfl, r, rr⟩ := vals_cons3 r1
  obtain ⟨u2, us2, rfl, r', rr'⟩ := vals_cons3 rr
  obtain ⟨u3, us3, rfl, r'', rr''⟩ := vals_cons3 rr'
  cases rr''
  cases (show u1 = Value.ref a from r)
  cases (show u2 = Value.ref b from r')
  cases (show u3 = Value.ref c from r'')
  exact (by
    refine zip_begins3 (begins_K t1 a l1.toArray) (begins_K t2 b l2.toArray) (begins_K t3 c l3.toArray) p1 p2 p3 fun h' hz hTI hTO h1 h2 h3 hsz hk => wpAny_pyIter_zip hz ?_
    have sep := zip_sep3 (N := s1.heap.objs.size) (fp1 := [a]) (fp2 := [b]) (fp3 := [c]) (fun q hq => by rw [List.mem_singleton.mp hq]; exact m1) (fun q hq => by rw [List.mem_singleton.mp hq]; exact m2) (fun q hq => by rw [List.mem_singleton.mp hq]; exact m3)
    refine ⟨s1.heap.objs.size + 5, [s1.heap.objs.size + 5, s1.heap.objs.size + 3, s1.heap.objs.size + 4, s1.heap.objs.size, s1.heap.objs.size + 1, s1.heap.objs.size + 2], _, _, H1, rfl, I1.kept (t' := s1.toks) hk,
      turn_z3 (N := min (min xs.length ys.length) zs.length) (t1 := t1) (t2 := t2) (t3 := t3) sep (Nat.ne_of_lt m1) (Nat.ne_of_lt (Nat.lt_succ_of_lt m2)) (Nat.ne_of_lt (Nat.lt_succ_of_lt (Nat.lt_succ_of_lt m3))),
      ⟨Nat.zero_le _, hz, hTI, ⟨_, _, _, hTO⟩, itK_new h1, itK_new h2, itK_new h3⟩, fun q hq => ?_, q⟩
    have hle : s1.heap.objs.size ≤ q := by
      simp only [List.mem_cons, List.not_mem_nil, or_false] at hq
      rcases hq with e | e | e | e | e | e <;> rw [e] <;> first | exact Nat.le_refl _ | exact Nat.le_add_right _ _
    exact I1.fpOk hle (I1.hok.fresh hle))
end DL

set_option Elab.async false
set_option linter.all false
set_option autoImplicit false
set_option maxRecDepth 100000
namespace DL
open PySem PySem.Spec PyProof.Rows L2 HT
theorem dp_sqz {K : PySem.W.Frag} {G : Hp} {v : V} {d : PyData} {k : Bool} {ds : List PyData} (h : Dp K G v d) (e : seqD d = some (k, ds)) : ∃ (a : Addr) (xs : List V), v = .ref a ∧ DpAll K G xs ds ∧ (∀ H : Hp, Same G H → SqZ K H k a xs) := by
  cases h with
  | lst s ha =>
    cases e
    exact ⟨_, _, rfl, ha, fun H s' => .inl (.inl (s' _ _ s))⟩
  | tup s ha =>
    cases e
    exact ⟨_, _, rfl, ha, fun H s' => sqt_mono s' s⟩
  | _ => cases e
def zip3D (xs ys zs : List PyData) : List PyData := List.zipWith (fun a (q : PyData × PyData) => PyData.tuple [a, q.1, q.2]) xs (List.zip ys zs)
theorem zip3_get {xs ys zs : List PyData} {i : Nat} {d : PyData} (h : (zip3D xs ys zs)[i]? = some d) : ∃ x y z, xs[i]? = some x ∧ ys[i]? = some y ∧ zs[i]? = some z ∧ d = .tuple [x, y, z] := by
  obtain ⟨x, q, e1, e2, rfl⟩ := zip_get _ h
  unfold List.zip at e2
  obtain ⟨y, z, e3, e4, rfl⟩ := zip_get _ e2
  exact ⟨x, y, z, e1, e3, e4, rfl⟩
theorem zip3_len (xs ys zs : List PyData) : (zip3D xs ys zs).length = min (min xs.length ys.length) zs.length := by
  unfold zip3D List.zip
  rw [List.length_zipWith, List.length_zipWith]
  omega
section
variable {S : Type} [MSt S] {X : Cx} {K : PySem.W.Frag} {a b c : Expr} {ta tb tc : TE} {da db dc : DEt S} {p pos : Pos}
omit [MSt S] in
def dZip3 (da db dc : DEt S) : DIt S := fun ε n P => da ε n fun x n1 => db ε n1 fun y n2 => dc ε n2 fun z n3 => ∃ k1 xs k2 ys k3 zs, seqD x = some (k1, xs) ∧ seqD y = some (k2, ys) ∧ seqD z = some (k3, zs) ∧ P (zip3D xs ys zs) n3
theorem di_zip3 {elts : List Expr} {kk : Nat} {tpos : Pos} (hg : Gl X "zip") (hm : X.mg "zip" = none) (ha : DE K X a ta da) (hb : DE K X b tb db) (hc : DE K X c tc dc) (hs : starEach [a, b, c] X.env = (false, eval a X.env) :: starEach [b, c] X.env := by rfl) (hs2 : starEach [b, c] X.env = (false, eval b X.env) :: starEach [c] X.env := by rfl)
    (hs3 : starEach [c] X.env = (false, eval c X.env) :: starEach [] X.env := by rfl) (hpl : (backTo pos (starEach [b, c] X.env)).any (·.1) = false := by rfl) (hK : X.K = K := by rfl) :
    DI K X (.Tuple elts kk tpos) (.Call (.Name "zip" p) [a, b, c] [] pos) (iZip3 K (tCons ta (tCons tb (tCons tc tNil)))) (dZip3 da db dc) := by
  subst hK
  refine ⟨pi_zip3 hg hm (pa_cons ha.pe (pa_cons hb.pe (pa_cons hc.pe pa_nil hs3) hs2) hs) hs hpl, fun bo G0 H0 σ H G ε n P R r hp k =>
    ha.se bo G0 H0 σ H G ε n _ _ r hp fun v G1 H1 d n1 g1 b1 p1 h1 => hb.se bo G0 H0 σ H1 G1 ε n1 _ _ (r.grow g1 b1) h1 fun w G2 H2 d2 n2 g2 b2 p2 h2 => hc.se bo G0 H0 σ H2 G2 ε n2 _ _ ((r.grow g1 b1).grow g2 b2) h2 fun u G3 H3 d3 n3 g3 b3 p3 h3 => ?_⟩
  obtain ⟨k1, xs, k2, ys, k3, zs, e1, e2, e3, h3⟩ := h3
  obtain ⟨a1, x1, rfl, D1, q1⟩ := dp_sqz (dp_mono (g2.gg.trans g3.gg) p1) e1
  obtain ⟨a2, x2, rfl, D2, q2⟩ := dp_sqz (dp_mono g3.gg p2) e2
  obtain ⟨a3, x3, rfl, D3, q3⟩ := dp_sqz p3 e3
  have l1 := dpa_len D1
  have l2 := dpa_len D2
  have l3 := dpa_len D3
  refine ⟨k1, a1, x1, k2, a2, x2, k3, a3, x3, rfl, q1 H3 g3.gh, q2 H3 g3.gh, q3 H3 g3.gh, k _ G3 H3 _ n3 ((g1.trans b1 g2).trans b2 g3) b3 (fun i G4 H4 s1 s2 => ⟨fun z hz => ?_, fun hl => ?_⟩) h3⟩
  · obtain ⟨x, y, z', f1, f2, f3, rfl⟩ := zip3_get hz
    obtain ⟨vx, m1, m1'⟩ := dpa_get D1 f1
    obtain ⟨vy, m2, m2'⟩ := dpa_get D2 f2
    obtain ⟨vz, m3, m3'⟩ := dpa_get D3 f3
    have hlt : i < (zip3D xs ys zs).length := (List.getElem?_eq_some_iff.mp hz).1
    rw [zip3_len] at hlt
    refine ⟨⟨by omega, x1, x2, x3, vx, vy, vz, q1 H4 (s1.trans s2), q2 H4 (s1.trans s2), q3 H4 (s1.trans s2), m1, m2, m3⟩, fun q H' hq => ?_⟩
    obtain ⟨T, w1, w2, w3, rfl, hT, rfl, c1, c2, c3⟩ := hq
    have o1 := (c1 _ (q1 H4 (s1.trans s2))).symm.trans m1
    have o2 := (c2 _ (q2 H4 (s1.trans s2))).symm.trans m2
    have o3 := (c3 _ (q3 H4 (s1.trans s2))).symm.trans m3
    cases o1
    cases o2
    cases o3
    have sm := s1.trans (same_new (o := HO.tup [vx, vy, vz]) (s2.free hT))
    exact ⟨_, Grow.into s2 hT, .tup (.inl (.inl upd_same)) (.cons (dp_mono sm m1') (.cons (dp_mono sm m2') (.cons (dp_mono sm m3') .nil)))⟩
  · rw [zip3_len] at hl
    exact ⟨by omega, x1, x2, x3, q1 H4 (s1.trans s2), q2 H4 (s1.trans s2), q3 H4 (s1.trans s2), rfl⟩
end
end DL

set_option Elab.async false
set_option linter.all false
set_option autoImplicit false
set_option maxRecDepth 100000
namespace DL
open PySem PySem.Spec PyProof.Rows L2 HT
section
variable {S : Type} [MOw S] {X : Cx} {K : PySem.W.Frag} {x : Str} {k : Nat} {con : ConS Own} {a b e : Expr} {ta tb te : TE} {da db : DEt S} {dn : DNt S} {p pos : Pos}
omit [MOw S] in
/-- f(a, b, new thing) -/
def dCall2New (con : ConS Own) (da db : DEt S) (dn : DNt S) : DEt S := fun ε n P => da ε n fun d1 n1 => db ε n1 fun d2 n2 => dn ε n2 fun o n3 => isRef o ∧ con [.im d1, .im d2, .bx] o fun d _ => P d n3
theorem de_call2New (F : Kf (S := Own) X.prog X.w K X.mg X.base x k 3 con) (hr : Room k X.A) (hg : Gl X x) (ha : DE K X a ta da) (hb : DE K X b tb db) (hn : DN K X e te dn) (hdb : (x == ("__debug__" : Str)) = false := by decide)
    (hs : starEach [a, b, e] X.env = (false, eval a X.env) :: starEach [b, e] X.env := by rfl) (hs2 : starEach [b, e] X.env = (false, eval b X.env) :: starEach [e] X.env := by rfl) (hs3 : starEach [e] X.env = (false, eval e X.env) :: starEach [] X.env := by rfl)
    (hpl : (backTo pos (starEach [b, e] X.env)).any (·.1) = false := by rfl) (hK : X.K = K := by rfl) :
    DE K X (.Call (.Name x p) [a, b, e] [] pos) (tCall (spD (S := Own) K 3 con) [] E0 (tCons ta (tCons tb (tCons te tNil)))) (dCall2New con da db dn) := by
  subst hK
  obtain ⟨f, fd, ps, F1, F2, F3, F4⟩ := F.ex
  refine ⟨pe_call F1 hr hg F2 F3 F4 .nil pass0 (pa_cons ha.pe (pa_cons hb.pe (pa_cons hn.pe pa_nil hs3) hs2) hs) hdb hs hpl, fun bo G0 H0 σ H G ε n P Q R hp k =>
    ha.se bo G0 H0 σ H G ε n _ _ R hp fun v1 G1 H1 d1 n1 g1 b1 p1 h1 => hb.se bo G0 H0 σ H1 G1 ε n1 _ _ (R.grow g1 b1) h1 fun v2 G2 H2 d2 n2 g2 b2 p2 h2 =>
    hn.se bo G0 H0 σ H2 G2 ε n2 _ _ ((R.grow g1 b1).grow g2 b2) h2 fun v G3 H3 o f n3 g3 b3 r3 e3 h3 => ?_⟩
  obtain ⟨ir, hc⟩ := h3
  obtain ⟨ad, rfl⟩ := ref_of r3 ir
  have g12 := g1.trans b1 g2
  have g13 := g12.trans b2 g3
  have pa : AgsR X.K (some ⟨ad, f⟩) G3 [v1, v2, .ref ad] [.im d1, .im d2, .bx] := .cons (a := .im d1) (dp_mono (g2.gg.trans g3.gg) p1) (.cons (a := .im d2) (dp_mono g3.gg p2) (.cons (a := .bx) ⟨⟨ad, f⟩, rfl, rfl⟩ .nil))
  show spD (S := Own) X.K 3 con ([v1, v2, .ref ad] ++ []) H3 Q E0
  rw [List.append_nil]
  have old : ∀ a, H a ≠ none → H2 a ≠ none := fun a q => by
    by_cases z : Has bo a
    · exact b2.some_ne z
    · exact st_ne q fun u y => g12.kp a u z y
  have hnf : ∀ a u, H a = some u → a ∉ f := fun a u q z => old a (by rw [q]; exact fun y => nomatch y) (e3 a z).1
  refine ⟨some ⟨ad, f⟩, G3, _, o, _, rfl, pa, g3.gh, ⟨f, r3, fun a ha => ha, r3.ne⟩, fun a ha => (e3 a ha).2, hc, fun v' G' H' d n' g4 _ p4 h4 => ?_⟩
  have hH3 : ∀ a, H a ≠ none → H3 a ≠ none := fun a q => by
    by_cases z : Has bo a
    · exact b3.some_ne z
    · exact st_ne q fun u y => g13.kp a u z y
  have hfb : ∀ a, a ∈ f → ¬ Has bo a := fun a ha z => b2.some_ne z (e3 a ha).1
  exact k v' G' H' d n3 ⟨g13.gg.trans g4.gg, g4.gh, fun a z1 z2 => g4.fr a (hH3 a z1) (g13.fr a z1 z2), fun a u z1 z2 => g4.kp a u (hnf a u z2) (g13.kp a u z1 z2)⟩ (b3.keep g4.gg fun a ha u z => g4.kp a u (fun y => hfb a y ha) z) p4 h4
end
end DL

set_option Elab.async false
set_option linter.all false
set_option autoImplicit false
set_option maxRecDepth 100000
namespace DL
open PySem PySem.Spec PyProof.Rows L2 HT
section
variable {X : Cx} {S : Type} [MSt S] {K : PySem.W.Frag} {ta tb : TE} {da db : DEt S} {fa fb : DFt S} {i j : Nat} {x y : Str} {a b : Expr} {px py pt pos : Pos} {kt k2 pt2}
omit [MSt S] in
/-- a, b = [..], e -/
def dParOF (i j : Nat) (fa : DFt S) (db : DEt S) : DSt S := fun D ε n => fa ε n fun ds n1 => db ε n1 fun d n2 => D.nx ((ε.set i (.ow ds)).set j (.im d)) n2
omit [MSt S] in
def dParFO (i j : Nat) (da : DEt S) (fb : DFt S) : DSt S := fun D ε n => da ε n fun d n1 => fb ε n1 fun ds n2 => D.nx ((ε.set i (.im d)).set j (.ow ds)) n2
omit [MSt S] in
def dParOO (i j : Nat) (fa fb : DFt S) : DSt S := fun D ε n => fa ε n fun ds n1 => fb ε n1 fun es n2 => D.nx ((ε.set i (.ow ds)).set j (.ow es)) n2
theorem ds_parOF (hc : X.calm = true) (hN : X.N.Nodup) (hi : X.N[i]? = some x) (hj : X.N[j]? = some y) (hij : i ≠ j) (hx : X.env.scope.names.lookup x = some .local) (hy : X.env.scope.names.lookup y = some .local) (h1 : DF K X a ta fa) (h2 : DE K X b tb db)
    (hw : swappedStores [.Tuple [.Name x px, .Name y py] kt pt] (.Tuple [a, b] k2 pt2) X.env = pure (some [x, y])) (hs : swapsWithSole [.Tuple [.Name x px, .Name y py] kt pt] (.Tuple [a, b] k2 pt2) pos.line X.env = pure false := by rfl)
    (s1 : starEach [a, b] X.env = (false, eval a X.env) :: starEach [b] X.env := by rfl) (s2 : starEach [b] X.env = (false, eval b X.env) :: starEach [] X.env := by rfl) (hK : X.K = K := by rfl) :
    DS K X (.Assign [.Tuple [.Name x px, .Name y py] kt pt] (.Tuple [a, b] k2 pt2) pos) (tPar i j (tCons ta (tCons tb tNil))) (dParOF i j fa db) := by
  subst hK
  refine ⟨ps_par hc hN hi hj hij hx hy (pa_cons h1.pe (pa_cons h2.pe pa_nil s2) s1) hw hs, fun bo G0 H0 σ H G ε n D DD r l q => ?_⟩
  refine h1.se bo G0 H0 σ H G ε n _ _ r q fun ad vs G1 H1 ds n1 g1 b1 hn hg hH hd q1 => ?_
  refine h2.se bo G0 H0 σ H1 G1 ε n1 _ _ (r.grow g1 b1) q1 fun v G2 H2 d n2 g2 b2 p2 q2 => ?_
  have nb : ¬ Has bo ad := fun z => r.bx.some_ne z hn
  exact ⟨.ref ad, v, rfl, l.nx _ H2 G2 _ n2 ((r.setOw (g1.trans b1 g2) b2 hn (g2.fr ad (by rw [hH]; exact fun z => nomatch z) hg) (g2.kp ad _ nb hH) (dpa_mono g2.gg hd) i).setIm p2 j) q2⟩
theorem ds_parFO (hc : X.calm = true) (hN : X.N.Nodup) (hi : X.N[i]? = some x) (hj : X.N[j]? = some y) (hij : i ≠ j) (hx : X.env.scope.names.lookup x = some .local) (hy : X.env.scope.names.lookup y = some .local) (h1 : DE K X a ta da) (h2 : DF K X b tb fb)
    (hw : swappedStores [.Tuple [.Name x px, .Name y py] kt pt] (.Tuple [a, b] k2 pt2) X.env = pure (some [x, y])) (hs : swapsWithSole [.Tuple [.Name x px, .Name y py] kt pt] (.Tuple [a, b] k2 pt2) pos.line X.env = pure false := by rfl)
    (s1 : starEach [a, b] X.env = (false, eval a X.env) :: starEach [b] X.env := by rfl) (s2 : starEach [b] X.env = (false, eval b X.env) :: starEach [] X.env := by rfl) (hK : X.K = K := by rfl) :
    DS K X (.Assign [.Tuple [.Name x px, .Name y py] kt pt] (.Tuple [a, b] k2 pt2) pos) (tPar i j (tCons ta (tCons tb tNil))) (dParFO i j da fb) := by
  subst hK
  refine ⟨ps_par hc hN hi hj hij hx hy (pa_cons h1.pe (pa_cons h2.pe pa_nil s2) s1) hw hs, fun bo G0 H0 σ H G ε n D DD r l q => ?_⟩
  refine h1.se bo G0 H0 σ H G ε n _ _ r q fun v G1 H1 d n1 g1 b1 p1 q1 => ?_
  refine h2.se bo G0 H0 σ H1 G1 ε n1 _ _ (r.grow g1 b1) q1 fun ad vs G2 H2 ds n2 g2 b2 hn hg hH hd q2 => ?_
  exact ⟨v, .ref ad, rfl, l.nx _ H2 G2 _ n2 (((r.grow g1 b1).setIm p1 i).setOw g2 b2 hn hg hH hd j) q2⟩
theorem ds_parOO (hc : X.calm = true) (hN : X.N.Nodup) (hi : X.N[i]? = some x) (hj : X.N[j]? = some y) (hij : i ≠ j) (hx : X.env.scope.names.lookup x = some .local) (hy : X.env.scope.names.lookup y = some .local) (h1 : DF K X a ta fa) (h2 : DF K X b tb fb)
    (hw : swappedStores [.Tuple [.Name x px, .Name y py] kt pt] (.Tuple [a, b] k2 pt2) X.env = pure (some [x, y])) (hs : swapsWithSole [.Tuple [.Name x px, .Name y py] kt pt] (.Tuple [a, b] k2 pt2) pos.line X.env = pure false := by rfl)
    (s1 : starEach [a, b] X.env = (false, eval a X.env) :: starEach [b] X.env := by rfl) (s2 : starEach [b] X.env = (false, eval b X.env) :: starEach [] X.env := by rfl) (hK : X.K = K := by rfl) :
    DS K X (.Assign [.Tuple [.Name x px, .Name y py] kt pt] (.Tuple [a, b] k2 pt2) pos) (tPar i j (tCons ta (tCons tb tNil))) (dParOO i j fa fb) := by
  subst hK
  refine ⟨ps_par hc hN hi hj hij hx hy (pa_cons h1.pe (pa_cons h2.pe pa_nil s2) s1) hw hs, fun bo G0 H0 σ H G ε n D DD r l q => ?_⟩
  refine h1.se bo G0 H0 σ H G ε n _ _ r q fun ad vs G1 H1 ds n1 g1 b1 hn hg hH hd q1 => ?_
  refine h2.se bo G0 H0 σ H1 G1 ε n1 _ _ (r.grow g1 b1) q1 fun ae us G2 H2 es n2 g2 b2 hn2 hg2 hH2 hd2 q2 => ?_
  exact ⟨.ref ad, .ref ae, rfl, l.nx _ H2 G2 _ n2 ((r.setOw g1 b1 hn hg hH hd i).setOw g2 b2 hn2 hg2 hH2 hd2 j) q2⟩
end
section
variable {X : Cx} {S : Type} [MSt S] {K : PySem.W.Frag} {te : TE} {de : DEt S} {tg : Expr} {pos : Pos} {i : Nat} {y : Str} {py : Pos} {elt iter : Expr} {ifs : List Expr} {scope : Scope} {own : List (Str × Nat)} {spos : Pos} {wi : TI} {g : TG} {tt : TT} {di : DIt S} {dg : DGt} {dt : DTt S} {ts : List Nat}
/-- the same, a list of one's own -/
theorem ds_setLcO (i : Nat) (hc : X.calm = true) (hN : X.N.Nodup) (hy : X.N[i]? = some y) (hyl : X.env.scope.names.lookup y = some .local)
    (hsw : swapsWith (.ListComp elt [⟨tg, iter, ifs, 0⟩] scope pos) (some (.Name y py)) spos.line X.env = pure true) (hi : DI K X tg iter wi di) (ok : BlkOk X.N X.env.scope scope own)
    (hg : ∀ (s : Shared) (H : Hp) (C : Addr) (cl : List (Str × Addr)) (fp : List Addr), DG K (X.blk s H scope (compEnvC scope cl C X.env) fp) tg g dg ts) (ht : ∀ (s : Shared) (H : Hp) (C : Addr) (cl : List (Str × Addr)) (fp : List Addr), DTs K (X.blk s H scope (compEnvC scope cl C X.env) fp) ifs tt dt)
    (he : ∀ (s : Shared) (H : Hp) (C : Addr) (cl : List (Str × Addr)) (fp : List Addr), DE K (X.blk s H scope (compEnvC scope cl C X.env) fp) elt te de) (hts : ∀ i ∈ ts, i ∈ own.map (·.2) := by decide) (hs : ∀ x, foldedSetIterable iter X.env x = pure x := by intro _; rfl) (hK : X.K = K := by rfl) :
    DS K X (.Assign [.Name y py] (.ListComp elt [⟨tg, iter, ifs, 0⟩] scope pos) spos) (tAsg (tLc wi g tt te (own.map (·.2))) (gName i)) (dAsgO i (dLc di dg dt de (own.map (·.2)))) := by
  subst hK
  exact ⟨ps_setLc hc hN hy hyl hsw hi.pi ok (fun s H C cl fp => (hg s H C cl fp).pg) (fun s H C cl fp => (ht s H C cl fp).pt) (fun s H C cl fp => (he s H C cl fp).pe) hs,
     ss_asgO i (df_lc (X := X) (pos := pos) hc hN hi ok hg ht he hts hs).se⟩
end
end DL

set_option Elab.async false
set_option linter.all false
set_option autoImplicit false
set_option maxRecDepth 100000
namespace DL
open PySem PySem.Spec PyProof.Rows L2 HT
/-! ### texts compared -/
def fEqS (neg : Bool) : F2
  | .str a, .str b, C => C (.bool (if neg then !decide (a = b) else decide (a = b)))
  | _, _, _ => False
theorem fEqS_str (neg : Bool) (a b : Str) (C : PyData → Prop) : fEqS neg (.str a) (.str b) C = C (.bool (if neg then !decide (a = b) else decide (a = b))) := rfl
theorem dec_str {a b : Str} : decide (V.str a = V.str b) = decide (a = b) := decide_eq_decide.mpr ⟨fun e => by injection e, fun e => by rw [e]⟩
section
variable {S : Type} [MSt S] {X : Cx} {K : PySem.W.Frag} {a b : Expr} {ta tb : TE} {da db : DEt S} {pos : Pos}
theorem de_eqS (ha : DE K X a ta da) (hb : DE K X b tb db) (hK : X.K = K := by rfl) : DE K X (.Compare a [.Eq] [b] pos) (tOp rEq ta tb) (dOp (fEqS false) da db) := by
  subst hK
  refine de_cmp op_eq (fun G H x y dx dy C Q s hx hy h k => ?_) ha hb (nomark _)
  cases hx <;> cases hy <;> first | exact h.elim | skip
  exact ⟨rfl, k _ G H _ (Grow.refl s) (.bl _) (by rw [dec_str]; exact h)⟩
theorem de_neS (ha : DE K X a ta da) (hb : DE K X b tb db) (hK : X.K = K := by rfl) : DE K X (.Compare a [.NotEq] [b] pos) (tOp rNe ta tb) (dOp (fEqS true) da db) := by
  subst hK
  refine de_cmp op_ne (fun G H x y dx dy C Q s hx hy h k => ?_) ha hb (nomark _)
  cases hx <;> cases hy <;> first | exact h.elim | skip
  exact ⟨rfl, k _ G H _ (Grow.refl s) (.bl _) (by rw [dec_str]; exact h)⟩
theorem dt_eqS (ha : DE K X a ta da) (hb : DE K X b tb db) (hK : X.K = K := by rfl) : DT K X (.Compare a [.Eq] [b] pos) (tTest (tOp rEq ta tb)) (dTst (dOp (fEqS false) da db)) := by
  subst hK
  exact ⟨pt_cmpR op_eq ha.pe hb.pe (nomark _), st_test (de_eqS (pos := pos) ha hb).se⟩
theorem dt_neS (ha : DE K X a ta da) (hb : DE K X b tb db) (hK : X.K = K := by rfl) : DT K X (.Compare a [.NotEq] [b] pos) (tTest (tOp rNe ta tb)) (dTst (dOp (fEqS true) da db)) := by
  subst hK
  exact ⟨pt_cmpR op_ne ha.pe hb.pe (nomark _), st_test (de_neS (pos := pos) ha hb).se⟩
end
end DL

set_option Elab.async false
set_option linter.all false
set_option autoImplicit false
set_option maxRecDepth 100000
namespace DL
open PySem PySem.Spec PyProof.Rows L2 HT
/-! ### repr of any data -/
def rReprA (K : PySem.W.Frag) : List V → Hp → VK → Prop := fun vs H Q => ∃ (v : V) (d : PyData), vs = [v] ∧ Dp K H v d ∧ Shows d ∧ Q (.str d.shown) H
theorem call_reprA {X : Cx} (hgd : X.A.guards = some []) (hu : X.A.units + 64 < cLine) : CallR X (.builtin "repr") (rReprA X.K) := by
  intro pins s σ H xs us Q I r h
  obtain ⟨v, d, rfl, hd, hs, q⟩ := h
  obtain ⟨u, rfl, rv⟩ := vals1 r
  have hs3 := hs.2.2.1
  have seq : ∀ a : Addr, v = .ref a → wpAny (model X.prog X.w) X.A (call (.builtin "repr") [u]) (EP X pins σ Q) X.xe s := fun a e => by
    subst e
    obtain ⟨as, hr⟩ := Dp.reads I d _ u hd.l2 rv
    cases (show u = Value.ref a from rv)
    exact repr_of_reads' hr hs.1 (fun e => by rw [hs.2.1] at e; cases e) hgd (by omega) (fun _ _ e => e) (fun h' t tk hk => ⟨.str _, H, I.kept hk, ⟨_, rfl⟩, q⟩) hs.2.2.2
  cases hd with
  | non =>
    cases (show u = Value.none from rv)
    exact PySem.P.repr_of_none ⟨.str _, H, I.tok _, ⟨_, rfl⟩, q⟩
  | bl b =>
    cases (show u = Value.bool b from rv)
    refine PySem.P.repr_of_bool ⟨.str _, H, I.tok _, ⟨_, rfl⟩, ?_⟩
    cases b <;> exact q
  | int i =>
    obtain ⟨t, rfl⟩ := (show ∃ t, u = Value.int i t from rv)
    exact PySem.P.repr_of_int (of_decide_eq_true hs.1) ⟨.str _, H, I.tok _, ⟨_, rfl⟩, q⟩
  | str x =>
    obtain ⟨t, rfl⟩ := (show ∃ t, u = Value.str x t from rv)
    exact PySem.P.repr_of_str ⟨.str _, H, I.tok _, ⟨_, rfl⟩, q⟩ hs.2.2.2
  | lst _ _ => exact seq _ rfl
  | tup _ _ => exact seq _ rfl
section
variable {S : Type} [MSt S] {X : Cx} {K : PySem.W.Frag} {e : Expr} {te : TE} {de : DEt S} {p pos : Pos}
omit [MSt S] in
def dReprA (de : DEt S) : DEt S := fun ε n P => de ε n fun d n1 => Shows d ∧ P (.str d.shown) n1
theorem de_reprA (hgd : X.A.guards = some []) (hu : X.A.units + 64 < cLine) (hg : Gl X "repr") (hm : X.mg "repr" = none) (h : DE K X e te de) (he : starEach (e :: []) X.env = (false, eval e X.env) :: starEach [] X.env := by rfl) (hpl : (backTo pos (starEach [] X.env)).any (·.1) = false := by rfl) (hK : X.K = K := by rfl) :
    DE K X (.Call (.Name "repr" p) [e] [] pos) (tCB (rReprA K) (tCons te tNil)) (dReprA de) := by
  subst hK
  exact ⟨pe_callB (call_reprA hgd hu) hg hm PyProof.Rows.boot_repr (pa_cons h.pe pa_nil he) (by decide) (by decide) he hpl, fun bo G0 H0 σ H G ε n P Q R hp k =>
    h.se bo G0 H0 σ H G ε n _ _ R hp fun v G1 H1 d n1 g1 b1 p1 h1 => ⟨v, d, rfl, dp_mono g1.gh p1, h1.1, k _ G1 H1 _ n1 g1 b1 (.str _) h1.2⟩⟩
end
section
variable {S : Type} [MSt S] {X : Cx} {K : PySem.W.Frag} {a b c : Expr} {ta tb tc : TE} {da db dc : DEt S} {pos : Pos}
/-- a test a < b < c -/
theorem dt_chainI {op op' : CmpOp} {g g' : Int → Int → V} {f f' : Int → Int → PyData} (ho : OpR X (compareOp op) (rI0 g)) (ho' : OpR X (compareOp op') (rI0 g')) (hg : ∀ i j G, Dp K G (g i j) (f i j)) (hg' : ∀ i j G, Dp K G (g' i j) (f' i j)) (ha : DE K X a ta da) (hb : DE K X b tb db) (hc : DE K X c tc dc)
    (hm : lastMarks [op, op'] [b, c] = false := by with_unfolding_all rfl) (hK : X.K = K := by rfl) : DT K X (.Compare a [op, op'] [b, c] pos) (tTest (tChain (rI0 g) (rI0 g') ta tb tc)) (dTst (dChain (fN f) (fN f') da db dc)) := by
  subst hK
  exact ⟨pt_chain ho ho' ha.pe hb.pe hc.pe hm, st_test (de_chainI (pos := pos) ho ho' hg hg' ha hb hc hm).se⟩
end
end DL

set_option Elab.async false
set_option linter.all false
set_option autoImplicit false
set_option maxRecDepth 100000
namespace DL
open PySem PySem.Spec PyProof.Rows L2 HT
/-! ### a tuple so many times (twice or more) -/
def fTimesT : F2
  | .tuple xs, .int j, C => xs ≠ [] ∧ 2 ≤ j ∧ j ≤ 1000 ∧ xs.length ≤ 1000 ∧ C (.tuple (List.replicate j.toNat xs).flatten)
  | _, _, _ => False
theorem fTimesT_ti (xs : List PyData) (j : Int) (C : PyData → Prop) : fTimesT (.tuple xs) (.int j) C = (xs ≠ [] ∧ 2 ≤ j ∧ j ≤ 1000 ∧ xs.length ≤ 1000 ∧ C (.tuple (List.replicate j.toNat xs).flatten)) := rfl
section
variable {S : Type} [MSt S] {X : Cx} {K : PySem.W.Frag} {a b : Expr} {ta tb : TE} {da db : DEt S} {pos : Pos}
theorem de_timesT (ha : DE K X a ta da) (hb : DE K X b tb db) (hK : X.K = K := by rfl) : DE K X (.BinOp a .Mult b pos) (tOp (rRepT K) ta tb) (dOp fTimesT da db) := by
  subst hK
  refine de_op op_repT (fun G H x y dx dy C Q s hx hy h k => ?_) ha hb
  cases hx with
  | tup st hd =>
    cases hy with
    | int j =>
      obtain ⟨h0, h1, h2, h3, h4⟩ := h
      refine ⟨_, j, _, rfl, rfl, sqt_mono s st, fun e => h0 (List.length_eq_zero_iff.mp (by rw [← dpa_len hd, e]; rfl)), h1, h2, by rw [dpa_len hd]; exact h3, fun p hp => k _ _ _ _ (Grow.into s hp) (.tup (.inl (.inl upd_same)) (dpa_mono (same_new (s.free hp)) (dpa_rep hd _))) h4⟩
    | _ => exact h.elim
  | _ => cases hy <;> exact h.elim
end
end DL

set_option Elab.async false
set_option linter.all false
set_option autoImplicit false
set_option maxRecDepth 100000
namespace DL
open PySem PySem.Spec PyProof.Rows L2 HT
/-! ### a tuple or a list taken apart -/
def gSeq (K : PySem.W.Frag) (n : Nat) (t : TGs) : TG := fun v σ H Q => gTup K n t v σ H Q ∨ gLst K n t v σ H Q
def dgSeq (m : Nat) (dgs : DGst) : DGt := fun d ε C => ∃ k ds, seqD d = some (k, ds) ∧ ds.length = m ∧ dgs ds ε C
theorem dg_seq {X : Cx} {K : PySem.W.Frag} {pos : Pos} {es : List Expr} {k : Nat} {t : TGs} {dgs : DGst} {ts : List Nat} {n : Nat} (hc : X.calm = true) (h : DGs K X es t dgs ts) (hn : (assignEach es X.env).length = n := by rfl) (hst : (assignEach es X.env).findIdx? (·.1) = none := by rfl) (hK : X.K = K := by rfl) :
    DG K X (.Tuple es k pos) (gSeq K n t) (dgSeq n dgs) ts := by
  subst hK
  refine ⟨⟨fun pins s σ H v u Q I r q => q.elim (fun q => (pg_tup hc h.pg hn hst).run pins s σ H v u Q I r q) fun q => (pg_lst hc h.pg hn hst).run pins s σ H v u Q I r q⟩, fun bo G0 H0 σ H G ε m v d C Q r hd hcc kk => ?_⟩
  obtain ⟨k, ds, e, hl, hcc⟩ := hcc
  cases hd with
  | tup s ha =>
    cases e
    exact .inl ⟨_, _, rfl, sqt_mono r.gh s, (dpa_len ha).trans hl, h.sg bo G0 H0 σ H G ε m _ _ _ _ r ha hcc kk⟩
  | lst s ha =>
    cases e
    exact .inr ⟨_, _, rfl, .inl (.inl (r.gh _ _ s)), (dpa_len ha).trans hl, h.sg bo G0 H0 σ H G ε m _ _ _ _ r ha hcc kk⟩
  | _ => cases e
/-! ### keywords the other way about -/
theorem vals_rev : ∀ {vs : List V} {us : List Value}, Vals vs us → Vals vs.reverse us.reverse
  | _, _, .nil => .nil
  | _, _, .cons r h => by
    rw [List.reverse_cons, List.reverse_cons]
    exact (vals_rev h).append (.cons r .nil)
theorem vals_appR {vs : List V} {us : List Value} {zs : List V} {ws : List Value} (h : Vals vs us) (h' : Vals zs ws) : Vals (vs ++ zs.reverse) (us ++ ws.reverse) := h.append (vals_rev h')
theorem ags_rev {K : PySem.W.Frag} {bo : Option Bo} {G : Hp} : ∀ {vs : List V} {as : List Ag}, AgsR K bo G vs as → AgsR K bo G vs.reverse as.reverse
  | _, _, .nil => .nil
  | _, _, .cons r h => by
    rw [List.reverse_cons, List.reverse_cons]
    exact (ags_rev h).app (.cons r .nil)
end DL

set_option Elab.async false
set_option linter.all false
set_option autoImplicit false
set_option maxRecDepth 100000
namespace DL
open PySem PySem.Spec PyProof.Rows L2 HT
/-! ### dicts whose keys are whole numbers -/
def kvI (ks : List Int) (vs : List V) : List (Key × V) := (ks.map Sum.inl).zip vs
theorem kvI_len {ks : List Int} {vs : List V} (h : ks.length = vs.length) : (kvI ks vs).length = ks.length := by
  unfold kvI
  rw [List.length_zip, List.length_map]
  omega
/-- the value at a key -/
def lookI {α : Type} : List Int → List α → Int → Option α
  | k :: ks, x :: xs, i => if k = i then some x else lookI ks xs i
  | _, _, _ => none
theorem valV_look : ∀ (ks : List Int) (vs : List V) (i : Int), valV (kvI ks vs) (Sum.inl i) = lookI ks vs i
  | [], _, _ => rfl
  | _ :: _, [], _ => rfl
  | k :: ks, v :: vs, i => by
    have ih := valV_look ks vs i
    by_cases e : k = i
    · subst e
      rw [show kvI (k :: ks) (v :: vs) = (Sum.inl k, v) :: kvI ks vs from rfl, valV_pos rfl]
      simp [lookI]
    · rw [show kvI (k :: ks) (v :: vs) = (Sum.inl k, v) :: kvI ks vs from rfl, valV_neg (fun z => e (Sum.inl.inj z)), ih]
      simp [lookI, e]
theorem lookI_some {α : Type} : ∀ {ks : List Int} {xs : List α} {i : Int}, ks.length = xs.length → ((lookI ks xs i).isSome = decide (i ∈ ks))
  | [], [], _, _ => by simp [lookI]
  | k :: ks, x :: xs, i, h => by
    by_cases e : k = i
    · simp [lookI, e]
    · have := lookI_some (ks := ks) (xs := xs) (i := i) (by simpa using h)
      have e' : ¬ i = k := fun z => e z.symm
      simp [lookI, e, e', this]
  | [], _ :: _, _, h => by cases h
  | _ :: _, [], _, h => by cases h
theorem lookI_dp {K : PySem.W.Frag} {G : Hp} : ∀ {ks : List Int} {vs : List V} {ds : List PyData} {i : Int}, DpAll K G vs ds → (lookI ks ds i = none → lookI ks vs i = none) ∧ ∀ d, lookI ks ds i = some d → ∃ v, lookI ks vs i = some v ∧ Dp K G v d
  | [], _, _, _, _ => ⟨fun _ => rfl, fun d h => by simp [lookI] at h⟩
  | _ :: _, _, _, _, .nil => ⟨fun _ => rfl, fun d h => by simp [lookI] at h⟩
  | k :: ks, _, _, i, .cons h t => by
    have ih := lookI_dp (ks := ks) (i := i) t
    by_cases e : k = i
    · simp only [lookI, e, if_true]
      exact ⟨(fun z => nomatch z), fun d z => by cases z; exact ⟨_, rfl, h⟩⟩
    · simp only [lookI, e, if_false]
      exact ih
/-- in its place, or at the end -/
def putKI (ks : List Int) (i : Int) : List Int := if i ∈ ks then ks else ks ++ [i]
def putVI {α : Type} : List Int → List α → Int → α → List α
  | k :: ks, x :: xs, i, y => if k = i then y :: xs else x :: putVI ks xs i y
  | _, _, _, y => [y]
theorem putKI_nodup {ks : List Int} {i : Int} (h : ks.Nodup) : (putKI ks i).Nodup := by
  unfold putKI
  split
  · exact h
  · rename_i z
    rw [List.nodup_append]
    exact ⟨h, List.pairwise_singleton _ _, fun a ha b hb e => z (by rw [List.mem_singleton.mp hb] at e; rw [← e]; exact ha)⟩
theorem putVI_len {α : Type} : ∀ {ks : List Int} {xs : List α} {i : Int} {y : α}, ks.length = xs.length → (putVI ks xs i y).length = (putKI ks i).length
  | [], [], i, y, _ => by simp [putVI, putKI]
  | k :: ks, x :: xs, i, y, h => by
    have ih := putVI_len (ks := ks) (xs := xs) (i := i) (y := y) (by simpa using h)
    unfold putKI at ih ⊢
    by_cases e : k = i
    · subst e
      simp [putVI]
      simpa using h.symm
    · have e' : ¬ i = k := fun z => e z.symm
      simp only [putVI, e, if_false, List.length_cons, List.mem_cons, e', false_or]
      rw [ih]
      split <;> simp
  | [], _ :: _, _, _, h => by cases h
  | _ :: _, [], _, _, h => by cases h
theorem putK_I : ∀ (ks : List Int) (vs : List V) (i : Int) (v : V), ks.length = vs.length → ks.Nodup → putK (kvI ks vs) (Sum.inl i) v = kvI (putKI ks i) (putVI ks vs i v)
  | [], [], _, _, _, _ => rfl
  | k :: ks, x :: vs, i, v, h, hn => by
    have hl : ks.length = vs.length := by simpa using h
    rw [List.nodup_cons] at hn
    have ih := putK_I ks vs i v hl hn.2
    by_cases e : k = i
    · subst e
      have e1 : putK (kvI (k :: ks) (x :: vs)) (Sum.inl k) v = (Sum.inl k, v) :: kvI ks vs := by
        unfold putK
        rw [if_pos (by simp [kvI])]
        show (if (Sum.inl k : Key) = Sum.inl k then ((Sum.inl k : Key), v) else (Sum.inl k, x)) :: (kvI ks vs).map _ = _
        rw [if_pos rfl]
        congr 1
        conv => rhs; rw [← List.map_id (kvI ks vs)]
        refine List.map_congr_left fun p hp => ?_
        have hp1 := (List.of_mem_zip (a := p.1) (b := p.2) hp).1
        obtain ⟨z, hz, e2⟩ := List.mem_map.mp hp1
        rw [if_neg (fun q => hn.1 (by rw [← e2] at q; rw [← Sum.inl.inj q]; exact hz))]
        rfl
      rw [e1]
      unfold putKI
      rw [if_pos List.mem_cons_self]
      simp [putVI, kvI]
    · have e' : ¬ i = k := fun z => e z.symm
      have e1 : putK (kvI (k :: ks) (x :: vs)) (Sum.inl i) v = (Sum.inl k, x) :: putK (kvI ks vs) (Sum.inl i) v := by
        unfold putK
        have hany : ((kvI (k :: ks) (x :: vs)).any fun kv => decide (kv.1 = Sum.inl i)) = (kvI ks vs).any fun kv => decide (kv.1 = Sum.inl i) := by
          show (decide ((Sum.inl k : Key) = Sum.inl i) || _) = _
          rw [decide_eq_false (fun z => e (Sum.inl.inj z)), Bool.false_or]
          rfl
        rw [hany]
        split
        · show (if (Sum.inl k : Key) = Sum.inl i then ((Sum.inl k : Key), v) else (Sum.inl k, x)) :: _ = _
          rw [if_neg (fun z => e (Sum.inl.inj z))]
          rfl
        · rfl
      rw [e1, ih]
      unfold putKI
      by_cases c : i ∈ ks
      · rw [if_pos c, if_pos (List.mem_cons_of_mem _ c)]
        simp [putVI, kvI, e]
      · rw [if_neg c, if_neg (by simp [e', c])]
        simp [putVI, kvI, e]
  | [], _ :: _, _, _, h, _ => by cases h
  | _ :: _, [], _, _, h, _ => by cases h
theorem putVI_dp {K : PySem.W.Frag} {G : Hp} {v : V} {d : PyData} (hv : Dp K G v d) : ∀ {ks : List Int} {vs : List V} {ds : List PyData} {i : Int}, DpAll K G vs ds → DpAll K G (putVI ks vs i v) (putVI ks ds i d)
  | [], _, _, _, _ => by simp only [putVI]; exact .cons hv .nil
  | _ :: _, _, _, _, .nil => by simp only [putVI]; exact .cons hv .nil
  | k :: ks, _, _, i, .cons h t => by
    by_cases e : k = i
    · simp only [putVI, e, if_true]
      exact .cons hv t
    · simp only [putVI, e, if_false]
      exact .cons h (putVI_dp hv t)
section
variable {S : Type} [MOw S] {K : PySem.W.Frag} {bo : Option Bo} {G0 H0 : Hp} {σ : L2.St} {H G : Hp} {ε : En} {n : S}
/-- such a dict at a place, other entries in it -/
theorem Rl.placeDki (r : Rl K bo G0 H0 σ H G ε n) {pl : Plc} {ks : List Int} {os : List Own} (h : plGet ε n pl = some (.dki ks os)) (hb : pl.root = none → ∃ b, bo = some b) :
    ∃ d vs f, PlV bo σ H pl (.ref d) ∧ (∀ H2, (∀ a u, H a = some u → H2 a = some u) → PlV bo σ H2 pl (.ref d)) ∧ H d = some (.dK (kvI ks vs)) ∧ ks.length = vs.length ∧ ks.Nodup ∧ OwsR K G H vs os f ∧ d ∉ f ∧
      ∀ ks2 vs2 os2 f2, OwsR K G H vs2 os2 f2 → ks2.length = vs2.length → ks2.Nodup → (∀ a ∈ f2, a ∈ f) → Rl K bo G0 H0 σ (upd H d (.dK (kvI ks2 vs2))) G (plEnv ε n pl (.dki ks2 os2)) (plSt ε n pl (.dki ks2 os2)) := by
  obtain ⟨v1, f1, c1, c2, c3, c4, c5⟩ := r.place h hb
  cases c2 with
  | @dki d _ vs _ f q l1 l2 t nf =>
    refine ⟨d, vs, f, c1, c4, q, l1, l2, t, nf, fun ks2 vs2 os2 f2 r2 hl2 hn2 hs => ?_⟩
    have hnl : d ∉ f2 := fun z => nf (hs d z)
    refine c5 G _ (.dki ks2 os2) (d :: f2) (Same.refl G) (fun c u z => ?_) (fun _ _ z => z) (fun c u hc z => ?_) (fun c z => ?_) (.dki upd_same hl2 hn2 (r2.keep (Same.refl G) fun a ha u z => by rw [upd_ne (fun e => hnl (by rw [← e]; exact ha))]; exact z) hnl) fun a ha => ?_
    · rw [upd_ne (ne_of_none z (c3 d List.mem_cons_self))]
      exact r.gh c u z
    · rw [upd_ne (fun e => hc (by rw [e]; exact List.mem_cons_self))]
      exact z
    · by_cases e : c = d
      · rw [e, upd_same]
        exact fun z => nomatch z
      · rw [upd_ne e]
        exact z
    · rcases List.mem_cons.mp ha with rfl | ha
      · exact .inl List.mem_cons_self
      · exact .inl (List.mem_cons_of_mem _ (hs a ha))
end
section
variable {S : Type} [MOw S] {X : Cx} {K : PySem.W.Frag} {e a b : Expr} {te ta tb : TE} {de da dk : DEt S} {dp : DPt S} {p pos : Pos}
omit [MOw S] in
def dnNewK : DNt S := fun ε n P => P (.dki [] []) n
theorem dn_newK (hK : X.K = K := by rfl) : DN K X (.Dict [] [] pos) tDNewK (dnNewK (S := S)) := by
  subst hK
  refine ⟨pe_dnewK, fun bo G0 H0 σ H G ε n P Q R hp k => fun p hpn => ?_⟩
  have kp : ∀ a u, H a = some u → upd H p (.dK []) a = some u := fun a u z => by
    rw [upd_ne (ne_of_none z hpn)]
    exact z
  refine k (.ref p) G _ (.dki [] []) [p] n ⟨Same.refl G, fun a u z => kp a u (R.gh a u z), fun _ _ z => z, fun a u _ z => kp a u z⟩ (R.bx.keep (Same.refl G) fun a _ u z => kp a u z) (.dki (vs := []) upd_same rfl List.nodup_nil .nil (fun z => nomatch z)) (fun a ha => ?_) hp
  rw [List.mem_singleton.mp ha]
  exact ⟨hpn, R.gh.free hpn⟩
/-- k in P -/
def dInK (neg : Bool) (dk : DEt S) (dp : DPt S) : DTt S := fun ε n P => dk ε n fun kd _ => dp ε n fun pl _ => ∃ ks os i, plGet ε n pl = some (.dki ks os) ∧ kd = .int i ∧ P (if neg then !decide (i ∈ ks) else decide (i ∈ ks)) n
theorem int_of {G : Hp} {v : V} {i : Int} (h : Dp K G v (.int i)) : v = .int i := by cases h; rfl
theorem dt_inK (hu : X.A.units + 64 < cLine) (hk : DV K X a ta dk) (hp : DP K X b tb dp) (hm : behindInMarks .In b = false := by rfl) (hK : X.K = K := by rfl) : DT K X (.Compare a [.In] [b] pos) (tB (tDIn ta tb)) (dInK false dk dp) := by
  subst hK
  refine ⟨pt_cmp (pc_din (by omega) hk.pe hp.pe) hm, fun bo G0 H0 σ H G ε n P Q r q k =>
    hk.se bo G0 H0 σ H G ε n _ _ r q fun v G1 H1 kd g1 pk h1 => hp.se bo G0 H0 σ H1 G1 ε n _ _ (r.after g1) h1 fun w G2 H2 pl g2 pv hb h2 => ?_⟩
  obtain ⟨ks, os, i, hg, rfl, h2⟩ := h2
  have r2 := (r.after g1).after g2
  obtain ⟨d, vs, f, c1, _, c2, c3, _, c5, _⟩ := r2.placeDki hg hb
  cases pv.inj c1
  cases int_of pk
  refine ⟨d, _, rfl, DGet.k (k := Sum.inl i) c2, _, rfl, k _ G2 H2 n (g1.trans (S := S) (n := n) (K := X.K) (bo := none) trivial g2).any r2.bx ?_⟩
  rw [valV_look, lookI_some c3]
  exact h2
theorem dt_notInK (hu : X.A.units + 64 < cLine) (hk : DV K X a ta dk) (hp : DP K X b tb dp) (hm : behindInMarks .NotIn b = false := by rfl) (hK : X.K = K := by rfl) : DT K X (.Compare a [.NotIn] [b] pos) (tB (tDNotIn ta tb)) (dInK true dk dp) := by
  subst hK
  refine ⟨pt_cmp (pc_dnotin (by omega) hk.pe hp.pe) hm, fun bo G0 H0 σ H G ε n P Q r q k =>
    hk.se bo G0 H0 σ H G ε n _ _ r q fun v G1 H1 kd g1 pk h1 => hp.se bo G0 H0 σ H1 G1 ε n _ _ (r.after g1) h1 fun w G2 H2 pl g2 pv hb h2 => ?_⟩
  obtain ⟨ks, os, i, hg, rfl, h2⟩ := h2
  have r2 := (r.after g1).after g2
  obtain ⟨d, vs, f, c1, _, c2, c3, _, c5, _⟩ := r2.placeDki hg hb
  cases pv.inj c1
  cases int_of pk
  refine ⟨d, _, rfl, DGet.k (k := Sum.inl i) c2, _, rfl, k _ G2 H2 n (g1.trans (S := S) (n := n) (K := X.K) (bo := none) trivial g2).any r2.bx ?_⟩
  rw [valV_look, lookI_some c3]
  exact h2
/-- P[k] -/
def dGetK (dp : DPt S) (dk : DEt S) : DEt S := fun ε n P => dp ε n fun pl _ => dk ε n fun kd _ => ∃ ks es i d, plGet ε n pl = some (.dki ks (es.map .dat)) ∧ kd = .int i ∧ lookI ks es i = some d ∧ P d n
theorem dv_getK (hu : X.A.units + 64 < cLine) (hp : DP K X a ta dp) (hk : DV K X b tb dk) (hs : NoSl b) (hK : X.K = K := by rfl) : DV K X (.Subscript a b pos) (tDGet ta tb) (dGetK dp dk) := by
  subst hK
  refine ⟨pe_dget (by omega) hp.pe hk.pe hs, fun bo G0 H0 σ H G ε n P Q r q k => hp.se bo G0 H0 σ H G ε n _ _ r q fun w G1 H1 pl g1 pv hb h1 => hk.se bo G0 H0 σ H1 G1 ε n _ _ (r.after g1) h1 fun v G2 H2 kd g2 pk h2 => ?_⟩
  obtain ⟨ks, es, i, d, hg, rfl, hv, h2⟩ := h2
  have r1 := r.after g1
  have r2 := r1.after g2
  obtain ⟨d0, _, _, b1, b2, _⟩ := r1.placeDki hg hb
  obtain ⟨dd, vs, f, c1, _, c2, c3, _, c5, _⟩ := r2.placeDki hg hb
  cases pv.inj b1
  cases (b2 H2 fun c u z => g2.kp c u (fun z => z) z).inj c1
  cases int_of pk
  obtain ⟨c5', rfl⟩ := OwsR.undat c5
  obtain ⟨x, e1, pd⟩ := (lookI_dp (ks := ks) (i := i) c5').2 d hv
  have hget := DGet.k (k := Sum.inl i) c2
  rw [valV_look, e1] at hget
  exact ⟨d0, x, rfl, hget, k x G2 H2 d (g1.trans (S := S) (n := n) (K := X.K) (bo := none) trivial g2) pd h2⟩
/-- P[k] = e -/
def dPutK (dp : DPt S) (dk de : DEt S) : DSt S := fun D ε n => de ε n fun d _ => dp ε n fun pl _ => dk ε n fun kd _ => ∃ ks es i, plGet ε n pl = some (.dki ks (es.map .dat)) ∧ ks.length < 100000 ∧ kd = .int i ∧
  D.nx (plEnv ε n pl (.dki (putKI ks i) ((putVI ks es i d).map .dat))) (plSt ε n pl (.dki (putKI ks i) ((putVI ks es i d).map .dat)))
theorem ds_putK {pos2 : Pos} (hu : X.A.units + 64 < cLine) (hp : DP K X a ta dp) (hk : DV K X b tb dk) (he : DV K X e te de) (hs : swapsWith e (some (.Subscript a b p)) pos2.line X.env = pure false := by rfl) (hK : X.K = K := by rfl) :
    DS K X (.Assign [.Subscript a b p] e pos2) (sDPut ta tb te) (dPutK dp dk de) := by
  subst hK
  refine ⟨ps_dput (by omega) hp.pe hk.pe he.pe hs, fun bo G0 H0 σ H G ε n D DD r l q => he.se bo G0 H0 σ H G ε n _ _ r q fun v G1 H1 d g1 pd h1 => hp.se bo G0 H0 σ H1 G1 ε n _ _ (r.after g1) h1 fun w G2 H2 pl g2 pv hb h2 =>
    hk.se bo G0 H0 σ H2 G2 ε n _ _ ((r.after g1).after g2) h2 fun kv G3 H3 kd g3 pk h3 => ?_⟩
  obtain ⟨ks, es, i, hg, hl, rfl, h3⟩ := h3
  have r2 := (r.after g1).after g2
  have r3 := r2.after g3
  obtain ⟨d0, _, _, b1, b2, _⟩ := r2.placeDki hg hb
  obtain ⟨dd, vs, f, c1, _, c2, c3, cn, c5, c6, c7⟩ := r3.placeDki hg hb
  cases pv.inj b1
  cases (b2 H3 fun c u z => g3.kp c u (fun z => z) z).inj c1
  cases int_of pk
  obtain ⟨c5', rfl⟩ := OwsR.undat c5
  have pd3 := dp_mono (g2.gg.trans g3.gg) pd
  have hput := DPut.k (k := Sum.inl i) (v := v) c2 (szl (by rw [kvI_len c3]; exact hl))
  rw [putK_I ks vs i v c3 cn] at hput
  exact ⟨d0, _, rfl, hput, l.nx _ _ G3 _ _ (c7 _ _ _ [] (OwsR.dat (putVI_dp pd3 c5')) (putVI_len c3).symm (putKI_nodup cn) (fun _ z => nomatch z)) h3⟩
/-- len(P) -/
def dLenK (dp : DPt S) : DEt S := fun ε n P => dp ε n fun pl _ => ∃ ks os, plGet ε n pl = some (.dki ks os) ∧ P (.int (ks.length : Int)) n
theorem dv_lenK (hg : Gl X "len") (hm : X.mg "len" = none) (ha : DP K X a ta dp) (he : starEach (a :: []) X.env = (false, eval a X.env) :: starEach [] X.env := by rfl) (hpl : (backTo pos (starEach [] X.env)).any (·.1) = false := by rfl) (hK : X.K = K := by rfl) :
    DV K X (.Call (.Name "len" p) [a] [] pos) (tCB (fun xs H Q => ∃ a kvs, xs = [V.ref a] ∧ H a = some (.dK kvs) ∧ Q (.int kvs.length) H) (tCons ta tNil)) (dLenK dp) := by
  subst hK
  refine ⟨pe_callB call_lenD hg hm PySem.boot_len (pa_cons ha.pe pa_nil he) (by decide) (by decide) he hpl, fun bo G0 H0 σ H G ε n P Q r q k => ha.se bo G0 H0 σ H G ε n _ _ r q fun v G1 H1 pl g1 pv hb h1 => ?_⟩
  obtain ⟨ks, os, hg, h1⟩ := h1
  obtain ⟨d, vs, f, c1, _, c2, c3, _⟩ := (r.after g1).placeDki hg hb
  cases pv.inj c1
  exact ⟨d, _, rfl, c2, k _ G1 H1 _ g1 (.int _) (by rw [kvI_len c3]; exact h1)⟩
end
end DL

set_option Elab.async false
set_option linter.all false
set_option autoImplicit false
set_option maxRecDepth 100000
namespace DL
open PySem PySem.Spec PyProof.Rows L2 HT
section
variable {S : Type} [MOw S] {K : PySem.W.Frag} {bo : Option Bo} {G0 H0 : Hp} {σ : L2.St} {H G G1 H1 : Hp} {ε : En} {n : S}
/-- a thing of one's own is made another one, and a slot gets a new one -/
theorem Rl.putObNew (r : Rl K bo G0 H0 σ H G ε n) {i : Nat} {s : Sl} {o : Own} (hi : ε[i]? = some s) (ho : s.own = some o) :
    ∃ v f, σ[i]? = some (some v) ∧ OwR K G H v o f ∧ (∀ a ∈ f, G a = none ∧ ¬ Has bo a ∧ H0 a = none) ∧ ∀ (t : Sl) (o2 : Own), t.own = some o2 → ∀ (G2 H2 : Hp) (f2 : List Addr) (n2 : S), Same G G2 → Same G2 H2 → (∀ a, H a ≠ none → G a = none → G2 a = none) → (∀ a u, a ∉ f → ¬ Has bo a → H a = some u → H2 a = some u) → BoxO K G2 H2 bo n2 → OwR K G2 H2 v o2 f2 →
      (∀ a ∈ f2, a ∈ f ∨ (H a = none ∧ G2 a = none)) → ∀ (j : Nat) (t3 : Sl) (o3 : Own) (v3 : V) (f3 : List Addr), i ≠ j → t3.own = some o3 → OwR K G2 H2 v3 o3 f3 → (∀ a ∈ f3, H a = none ∧ G2 a = none ∧ a ∉ f2) → Rl K bo G0 H0 (σ.set j (some v3)) H2 G2 ((ε.set i t).set j t3) n2 := by
  obtain ⟨fp, h1, h2, h3⟩ := r.own
  obtain ⟨v, hv, hr⟩ := h3 i s o hi ho
  refine ⟨v, fp i, hv, hr, fun a ha => ⟨(h2 i a ha).1, (h2 i a ha).2.1, (h2 i a ha).2.2.1⟩, fun t o2 ht G2 H2 f2 n2 sg sh hfr hk hb2 hr2 hf2 j t3 o3 v3 f3 hij ht3 hr3 hf3 => ?_⟩
  have hH : ∀ c, H0 c ≠ none → H c ≠ none := fun c q => by
    by_cases e : Has bo c
    · exact r.bx.some_ne e
    · exact st_ne q fun u z => r.gr.kp c u e z
  refine ⟨⟨r.gr.gg.trans sg, sh, fun c q1 q2 => hfr c (hH c q1) (r.gr.fr c q1 q2), fun c u hc q => hk c u (fun z => ?_) hc (r.gr.kp c u hc q)⟩, hb2, fun b e => hfr b (r.bx.some_ne e) (r.gb b e), by rw [List.length_set, List.length_set, List.length_set]; exact r.ln, fun k e q => ?_, fun k q => ?_, fun k o q => ?_, ?_⟩
  · have := (h2 i c z).2.2.1
    rw [q] at this
    cases this
  · rcases get_set q with ⟨rfl, _, z⟩ | ⟨hne0, q⟩
    · subst z
      cases ht3
    rw [set_off hne0]
    rcases get_set q with ⟨rfl, _, z⟩ | ⟨hne, q⟩
    · subst z
      cases ht
    · obtain ⟨w, q1, q2⟩ := r.im k e q
      exact ⟨w, q1, dp_mono sg q2⟩
  · rcases get_set q with ⟨rfl, _, z⟩ | ⟨hne0, q⟩
    · subst z
      cases ht3
    rw [set_off hne0]
    rcases get_set q with ⟨rfl, _, z⟩ | ⟨hne, q⟩
    · subst z
      cases ht
    · exact r.bs k q
  · rcases get_set q with ⟨rfl, _, z⟩ | ⟨hne0, q⟩
    · subst z
      cases ht3
    rw [set_off hne0]
    rcases get_set q with ⟨rfl, _, z⟩ | ⟨hne, q⟩
    · subst z
      cases ht
    · obtain ⟨w, f, q1, q2⟩ := r.rd k o q
      exact ⟨w, f, q1, q2.up sg⟩
  · have key : ∀ k a, a ∈ (if k = i then f2 else fp k) → a ∉ f3 := fun k a ha z => by
      obtain ⟨z1, z2, z3⟩ := hf3 a z
      by_cases e : k = i
      · rw [if_pos e] at ha
        exact z3 ha
      · rw [if_neg e] at ha
        exact (h2 k a ha).2.2.2 z1
    refine ⟨fun k => if k = j then f3 else if k = i then f2 else fp k, fun k l a hkl ha hb => ?_, fun k a ha => ?_, fun k t' u q hu => ?_⟩
    · dsimp only at ha hb
      by_cases c1 : k = j
      · have c2 : l ≠ j := fun z => hkl (c1.trans z.symm)
        rw [if_pos c1] at ha
        rw [if_neg c2] at hb
        exact key l a hb ha
      · rw [if_neg c1] at ha
        by_cases c2 : l = j
        · rw [if_pos c2] at hb
          exact key k a ha hb
        · rw [if_neg c2] at hb
          by_cases e1 : k = i
          · have e2 : l ≠ i := fun z => hkl (e1.trans z.symm)
            rw [if_pos e1] at ha
            rw [if_neg e2] at hb
            rcases hf2 a ha with q | q
            · exact h1 i l a (Ne.symm e2) q hb
            · exact (h2 l a hb).2.2.2 q.1
          · rw [if_neg e1] at ha
            by_cases e2 : l = i
            · rw [if_pos e2] at hb
              rcases hf2 a hb with q | q
              · exact h1 i k a (Ne.symm e1) q ha
              · exact (h2 k a ha).2.2.2 q.1
            · rw [if_neg e2] at hb
              exact h1 k l a hkl ha hb
    · dsimp only at ha
      by_cases c1 : k = j
      · rw [if_pos c1] at ha
        obtain ⟨z1, z2, z3⟩ := hf3 a ha
        exact ⟨z2, fun z => r.bx.some_ne z z1, r.gr.back r.bx z1, hr3.ne a ha⟩
      rw [if_neg c1] at ha
      by_cases e1 : k = i
      · rw [if_pos e1] at ha
        rcases hf2 a ha with q | q
        · obtain ⟨q1, q2, q3, q4⟩ := h2 i a q
          exact ⟨hfr a q4 q1, q2, q3, hr2.ne a ha⟩
        · exact ⟨q.2, fun z => r.bx.some_ne z q.1, r.gr.back r.bx q.1, hr2.ne a ha⟩
      · rw [if_neg e1] at ha
        obtain ⟨q1, q2, q3, q4⟩ := h2 k a ha
        exact ⟨hfr a q4 q1, q2, q3, st_ne q4 fun u z => hk a u (fun z => h1 i k a (Ne.symm e1) z ha) q2 z⟩
    · rcases get_set q with ⟨rfl, hj, z⟩ | ⟨hne0, q⟩
      · subst z
        rw [ht3] at hu
        cases hu
        rw [List.length_set] at hj
        exact ⟨v3, set_at (by rw [r.ln]; exact hj), by simp only [if_true]; exact hr3⟩
      rw [set_off hne0]
      rcases get_set q with ⟨rfl, hi, z⟩ | ⟨hne, q⟩
      · subst z
        rw [ht] at hu
        cases hu
        exact ⟨v, hv, by simp only [if_true, if_neg (Ne.symm hne0)]; exact hr2⟩
      · obtain ⟨w, q3, q4⟩ := h3 k t' u q hu
        refine ⟨w, q3, ?_⟩
        simp only [if_neg (Ne.symm hne), if_neg (Ne.symm hne0)]
        exact q4.keep sg fun a ha u q => hk a u (fun z => h1 i k a hne z ha) (h2 k a ha).2.1 q
end
section
variable {S : Type} [MOw S] {X : Cx} {K : PySem.W.Frag} {x : Str} {k m : Nat} {con : ConO Own} {es : List Expr} {ta : TA} {da : DAt S} {p pos : Pos}
omit [MOw S] in
/-- y = f(x, ..), x a thing of one's own that f changes, y a new one -/
def dSetCallBO (j i m : Nat) (con : ConO Own) (da : DAt S) : DSt S := fun D ε n => ∃ s o, ε[i]? = some s ∧ s.own = some o ∧ isRef o ∧ da ε n fun as n2 => Ag.bx ∉ as ∧ (Ag.bx :: as).length = m ∧ con (.bx :: as) o fun o2 o' => D.nx ((ε.set i (.ob o')).set j (.ob o2)) n2
theorem ds_setCallBO {y z : Str} {p1 pos' spos : Pos} (j i : Nat) (F : KfO (S := Own) X.prog X.w K X.mg X.base x k m con) (hr : Room k X.A) (hg : Gl X x) (h : DA K X es ta da) (hN : X.N.Nodup) (hj : X.N[j]? = some z) (hij : i ≠ j) (hzl : Loc X.env.scope z)
    (hi : X.N[i]? = some y := by rfl) (hv : Vis X.env.scope y := by first | exact Or.inl rfl | exact Or.inr (Or.inl rfl) | exact Or.inr (Or.inr rfl)) (hd : (y == ("__debug__" : Str)) = false := by decide) (hcd : (y == ("__classdict__" : Str)) = false := by decide) (hdb : (x == ("__debug__" : Str)) = false := by decide)
    (he : starEach (.Name y p1 :: es) X.env = (false, eval (.Name y p1) X.env) :: starEach es X.env := by rfl) (hpl : (backTo pos (starEach es X.env)).any (·.1) = false := by rfl)
    (hs : swapsWith (.Call (.Name x p) (.Name y p1 :: es) [] pos) (some (.Name z pos')) spos.line X.env = pure false := by rfl) (hf : X.fn z = true ∨ X.env.scope.names.lookup z = some .local := by first | exact .inl rfl | exact .inr rfl | assumption) (hK : X.K = K := by rfl) :
    DS K X (.Assign [.Name z pos'] (.Call (.Name x p) (.Name y p1 :: es) [] pos) spos) (tAsg (tCall (spO (S := Own) K m con) [] E0 (tCons (tVar i) ta)) (gName j)) (dSetCallBO j i m con da) := by
  subst hK
  obtain ⟨f, fd, ps, F1, F2, F3, F4⟩ := F.ex
  refine ⟨ps_set hN hj hzl (pe_call F1 hr hg F2 F3 F4 .nil pass0 (pa_cons (pe_var hi hv hd hcd) h.pa he) hdb he hpl) hs hf, fun bo G0 H0 σ H G ε n D DD r l q => ?_⟩
  obtain ⟨s, o, e1, e2, ir, q⟩ := q
  obtain ⟨v, fp, hvv, hro, hfp, hk⟩ := r.putObNew e1 e2
  obtain ⟨ad, rfl⟩ := ref_of hro ir
  refine ⟨.ref ad, hvv, h.se bo G0 H0 σ H G ε n _ _ r q fun us G2 H2 as n2 g2 b2 p2 h2 => ?_⟩
  obtain ⟨hnb, hl, hc⟩ := h2
  have hfb : ∀ a ∈ fp, ¬ Has bo a := fun a ha => (hfp a ha).2.1
  have r2 : OwR X.K G2 H2 (.ref ad) o fp := hro.keep g2.gg fun a ha u z => g2.kp a u (hfb a ha) z
  have pa : AgsR X.K (some ⟨ad, fp⟩) G2 (.ref ad :: us) (.bx :: as) := .cons (a := .bx) ⟨⟨ad, fp⟩, rfl, rfl⟩ (ags_any (ags_nobx p2 hnb))
  show spO (S := Own) X.K m con ((.ref ad :: us) ++ []) H2 _ E0
  rw [List.append_nil]
  refine ⟨some ⟨ad, fp⟩, G2, _, o, _, (ags_len pa).trans hl, pa, g2.gh, ⟨fp, r2, fun a ha => ha, r2.ne⟩, fun a ha => g2.fr a (hro.ne a ha) (hfp a ha).1, hc, fun v' G' H' o2 f2 o' g3 b3 r3 e3 h3 => ?_⟩
  obtain ⟨f4, r4, s4, _⟩ := b3
  have hH2 : ∀ a, H a ≠ none → H2 a ≠ none := fun a q => by
    by_cases z : Has bo a
    · exact b2.some_ne z
    · exact st_ne q fun u y => g2.kp a u z y
  have rr := hk (.ob o') o' rfl G' H' f4 n2 (g2.gg.trans g3.gg) g3.gh (fun a z1 z2 => g3.fr a (hH2 a z1) (g2.fr a z1 z2)) (fun a u z1 z2 z3 => g3.kp a u z1 (g2.kp a u z2 z3)) (b2.keep g3.gg fun a ha u z => g3.kp a u (fun y => hfb a y ha) z) r4 (fun a ha => .inl (s4 a ha))
    j (.ob o2) o2 v' f2 hij rfl r3 (fun a ha => ⟨Classical.byContradiction fun z => hH2 a z (e3 a ha).1, (e3 a ha).2, fun z => r2.ne a (s4 a z) (e3 a ha).1⟩)
  exact l.nx _ H' G' _ n2 rr h3
end
end DL

set_option Elab.async false
set_option linter.all false
set_option autoImplicit false
set_option maxRecDepth 100000
namespace DL
open PySem PySem.Spec PyProof.Rows L2 HT
/-! ### a dict stands still, locked, and is walked -/
/-- locked from here on -/
def tLockP (t : TS) : TS := fun D σ H => ∃ d u, H d = some u ∧ Mut (some u) ∧ ∀ od, t D σ (upd H d (.frz od u))
theorem pss_lockP {X : Cx} {sts : List Stmt} {t : TS} (h : PSs X sts t) : PSs X sts (tLockP t) := by
  refine ⟨fun pins s σ H D I hw => ?_⟩
  obtain ⟨d, u, hd, mu, hw⟩ := hw
  obtain ⟨od, I1⟩ := I.lock hd mu
  exact h.run pins s σ _ D I1 (hw od)
section
variable {S : Type} [MOw S] {X : Cx} {K : PySem.W.Frag} {e a b tg : Expr} {te ta tb : TE} {dr : DNt S} {dk : DEt S} {p pos : Pos}
omit [MOw S] in
def dLockK (i : Nat) (d1 : DSt S) : DSt S := fun D ε n => ∃ s ks os, ε[i]? = some s ∧ s.own = some (.dki ks os) ∧ d1 D (ε.set i (.rd (.dkl ks os))) n
theorem dss_lockK (i : Nat) {sts : List Stmt} {t : TS} {d1 : DSt S} (h : DSs K X sts t d1) (hK : X.K = K := by rfl) : DSs K X sts (tLockP t) (dLockK i d1) := by
  subst hK
  refine ⟨pss_lockP h.ps, fun bo G0 H0 σ H G ε n D DD r l q => ?_⟩
  obtain ⟨s, ks, os, e1, e2, q⟩ := q
  have hi := get_len e1
  obtain ⟨v, f, hv, hro, hfp, hk⟩ := r.putObG e1 e2
  cases hro with
  | @dki d _ vs _ fp q0 l1 l2 t0 nf =>
    refine ⟨d, _, q0, trivial, fun od => ?_⟩
    have hd := hfp d List.mem_cons_self
    have r1 := hk (.ob (.dkl ks os)) (.dkl ks os) rfl G (upd H d (.frz od (.dK ((ks.map Sum.inl).zip vs)))) (d :: fp) n (Same.refl G) (fun a u z => by rw [upd_ne (ne_of_none z hd.1)]; exact r.gh a u z) (fun _ _ z => z) (fun a u z1 z2 z3 => by rw [upd_ne (fun y => z1 (by rw [y]; exact List.mem_cons_self))]; exact z3)
      (r.bx.keep (Same.refl G) fun a ha u z => by rw [upd_ne (fun y => hd.2.1 (by rw [← y]; exact ha))]; exact z)
      (.dkl (od := od) upd_same l1 l2 (t0.keep (Same.refl G) fun a ha u z => by rw [upd_ne (fun y => nf (by rw [← y]; exact ha))]; exact z) nf) (fun a ha => .inl ha)
    obtain ⟨G', r2⟩ := r1.standOb (i := i) (s := .ob (.dkl ks os)) (o := .dkl ks os) (List.getElem?_set_self hi) rfl
    rw [List.set_set] at r2
    exact h.ss bo G0 H0 σ _ G' _ n D DD r2 l q
omit [MOw S] in
def isKI (o : Own) (ks : List Int) (os : List Own) : Prop := o = .dki ks os ∨ o = .dkl ks os
theorem rdK {G : Hp} {v : V} {o : Own} {f : List Addr} {ks : List Int} {os : List Own} (h : OwR K G G v o f) (e : isKI o ks os) : ∃ a vs f2, v = .ref a ∧ Rd G a (.dK (kvI ks vs)) ∧ ks.length = vs.length ∧ OwsR K G G vs os f2 := by
  rcases e with rfl | rfl
  · cases h with
    | dki q l1 l2 t nf => exact ⟨_, _, _, rfl, .inl q, l1, t⟩
  · cases h with
    | dkl q l1 l2 t nf => exact ⟨_, _, _, rfl, .inr ⟨_, q⟩, l1, t⟩
theorem rd_up {G H : Hp} {a : Addr} {u : HO} (s : Same G H) (h : Rd G a u) : Rd H a u := by
  rcases h with h | ⟨o, h⟩
  · exact .inl (s _ _ h)
  · exact .inr ⟨o, s _ _ h⟩
theorem dget_rd {H : Hp} {a : Addr} {kvs : List (Key × V)} {k : Key} (e : Rd H a (.dK kvs)) : DGet H a (kV k) (valV kvs k) := .inl ⟨kvs, k, e, rfl, rfl⟩
omit [MOw S] in
/-- for k in e -/
def dItK (dr : DNt S) : DIt S := fun ε n P => dr ε n fun o n1 => ∃ ks os, o = .dkl ks os ∧ P (ks.map .int) n1
theorem di_keysR (h : DR K X e te dr) (hK : X.K = K := by rfl) : DI K X tg e (iKeys te) (dItK dr) := by
  subst hK
  refine ⟨pi_keys h.pe, fun bo G0 H0 σ H G ε n P R r q k => h.se bo G0 H0 σ H G ε n _ _ r q fun v G1 H1 o f g1 ro h1 => ?_⟩
  obtain ⟨ks, os, rfl, h1⟩ := h1
  cases ro with
  | @dkl d od _ vs _ fp q0 l1 l2 t0 nf =>
    have hl : ((ks.map Sum.inl).zip vs : List (Key × V)).length = ks.length := kvI_len l1
    refine ⟨d, od, rfl, .inl ⟨_, g1.gh _ _ q0, k _ G1 H1 _ n g1.any (r.bx.grow g1) (fun i G2 H2 s1 s2 => ⟨fun x hx => ?_, fun hx => ?_⟩) h1⟩⟩
    · have hi : i < ks.length := by
        have := get_len hx
        rwa [List.length_map] at this
      refine ⟨⟨s2 _ _ (s1 _ _ q0), by rw [hl]; exact hi⟩, fun x' H' y => ?_⟩
      obtain ⟨rfl, k0, v0, hz, rfl⟩ := y
      refine ⟨G2, Grow.refl s2, ?_⟩
      rw [List.getElem?_map, List.getElem?_eq_getElem hi] at hx
      cases hx
      have h2 : (ks.map (Sum.inl : Int → Key))[i]? = some k0 := by
        rw [List.getElem?_zip_eq_some] at hz
        exact hz.1
      rw [List.getElem?_map, List.getElem?_eq_getElem hi] at h2
      cases h2
      exact .int _
    · rw [List.length_map] at hx
      exact ⟨s2 _ _ (s1 _ _ q0), by rw [hl]; exact hx⟩
omit [MOw S] in
/-- k in e -/
def dInKR (neg : Bool) (dk : DEt S) (dr : DNt S) : DTt S := fun ε n P => dk ε n fun kd _ => dr ε n fun o _ => ∃ ks os i, isKI o ks os ∧ kd = .int i ∧ P (if neg then !decide (i ∈ ks) else decide (i ∈ ks)) n
theorem dt_inKR (hu : X.A.units + 64 < cLine) (hk : DV K X a ta dk) (hp : DR K X b tb dr) (hm : behindInMarks .In b = false := by rfl) (hK : X.K = K := by rfl) : DT K X (.Compare a [.In] [b] pos) (tB (tDIn ta tb)) (dInKR false dk dr) := by
  subst hK
  refine ⟨pt_cmp (pc_din (by omega) hk.pe hp.pe) hm, fun bo G0 H0 σ H G ε n P Q r q k =>
    hk.se bo G0 H0 σ H G ε n _ _ r q fun v G1 H1 kd g1 pk h1 => hp.se bo G0 H0 σ H1 G1 ε n _ _ (r.after g1) h1 fun w G2 H2 o f g2 ro h2 => ?_⟩
  obtain ⟨ks, os, i, hg, rfl, h2⟩ := h2
  have r2 := (r.after g1).after g2
  obtain ⟨d, vs, f2, rfl, c2, c3, c5⟩ := rdK ro hg
  cases int_of pk
  refine ⟨d, _, rfl, dget_rd (k := Sum.inl i) (rd_up g2.gh c2), _, rfl, k _ G2 H2 n (g1.trans (S := S) (n := n) (K := X.K) (bo := none) trivial g2).any r2.bx ?_⟩
  rw [valV_look, lookI_some c3]
  exact h2
omit [MOw S] in
/-- e[k] -/
def dGetKR (dr : DNt S) (dk : DEt S) : DEt S := fun ε n P => dr ε n fun o _ => dk ε n fun kd _ => ∃ ks es i d, isKI o ks (es.map .dat) ∧ kd = .int i ∧ lookI ks es i = some d ∧ P d n
theorem dv_getKR (hu : X.A.units + 64 < cLine) (hp : DR K X a ta dr) (hk : DV K X b tb dk) (hs : NoSl b) (hK : X.K = K := by rfl) : DV K X (.Subscript a b pos) (tDGet ta tb) (dGetKR dr dk) := by
  subst hK
  refine ⟨pe_dget (by omega) hp.pe hk.pe hs, fun bo G0 H0 σ H G ε n P Q r q k => hp.se bo G0 H0 σ H G ε n _ _ r q fun w G1 H1 o f g1 ro h1 => hk.se bo G0 H0 σ H1 G1 ε n _ _ (r.after g1) h1 fun v G2 H2 kd g2 pk h2 => ?_⟩
  obtain ⟨ks, es, i, d, hg, rfl, hv, h2⟩ := h2
  obtain ⟨dd, vs, f2, rfl, c2, c3, c5⟩ := rdK ro hg
  cases int_of pk
  obtain ⟨c5', rfl⟩ := OwsR.undat c5
  obtain ⟨x, e1, pd⟩ := (lookI_dp (ks := ks) (i := i) c5').2 d hv
  have hget := dget_rd (k := Sum.inl i) (rd_up (g2.gg.trans g2.gh) c2)
  rw [valV_look, e1] at hget
  exact ⟨dd, x, rfl, hget, k x G2 H2 d (g1.trans (S := S) (n := n) (K := X.K) (bo := none) trivial g2) (dp_mono g2.gg pd) h2⟩
end
end DL

set_option Elab.async false
set_option linter.all false
set_option autoImplicit false
set_option maxRecDepth 100000
namespace DL
open PySem PySem.Spec PyProof.Rows L2 HT
/-! ### sorted of pairs of ints -/
def PairV (K : PySem.W.Frag) (H : Hp) (v : V) (q : Int × Int) : Prop := ∃ t, v = .ref t ∧ SqT K H t [.int q.1, .int q.2]
def rSortedPS (K : PySem.W.Frag) : List V → Hp → VK → Prop := fun vs H Q => ∃ (a : Addr) (xs : List V), vs = [V.ref a] ∧ SqL K H a xs ∧ (∀ x ∈ xs, ∃ q, PairV K H x q) ∧
  ∀ (k : V → Int × Int) ys p, (∀ x q, PairV K H x q → k x = q) → SrtO.Srtd (ltP k) ys → SrtO.Stb (ltP k) ys xs → H p = none → Q (.ref p) (upd H p (.lst ys))
open Classical in
noncomputable def kPair (K : PySem.W.Frag) (H : Hp) (v : V) : Int × Int := if h : ∃ q, PairV K H v q then h.choose else (0, 0)
section
variable {X : Cx} {pins : List (Addr × Obj)} {σ : L2.St} {H : Hp} {s : Shared}
theorem pair_inj (I : Inv X pins σ H s) {v : V} {q1 q2 : Int × Int} (h1 : PairV X.K H v q1) (h2 : PairV X.K H v q2) : q1 = q2 := by
  obtain ⟨t, rfl, h1⟩ := h1
  obtain ⟨t2, e, h2⟩ := h2
  cases e
  have e := I.tuple_inj h1 h2
  obtain ⟨a1, b1⟩ := q1
  obtain ⟨a2, b2⟩ := q2
  simp only [List.cons.injEq, V.int.injEq, and_true] at e
  rw [e.1, e.2]
theorem kPair_eq (I : Inv X pins σ H s) {v : V} {q : Int × Int} (h : PairV X.K H v q) : kPair X.K H v = q := by
  unfold kPair
  have ex : ∃ q, PairV X.K H v q := ⟨q, h⟩
  rw [dif_pos ex]
  exact pair_inj I ex.choose_spec h
end
theorem cr_sortedPS {X : Cx} : CallR X (.builtin "sorted") (rSortedPS X.K) := by
  intro pins s σ H vs us Q I r h
  obtain ⟨a, xs, rfl, hs, hx, q⟩ := h
  obtain ⟨its, rv, hl, hz⟩ := I.list hs
  obtain ⟨u, rfl, ru⟩ := vals1 r
  obtain rfl : u = Value.ref a := ru
  obtain ⟨e1, e2⟩ := refs_back rv fun x m => by
    obtain ⟨_, t, e, _⟩ := hx x m
    exact ⟨t, e⟩
  refine SrtO.sorted_pairsO (k := fun u => kPair X.K H (backV u)) hl.isList (by rw [← rv.length]; exact hz) (fun v hv => ?_) fun h' d out h1 h2 kp hd hn => ?_
  · obtain ⟨t, rfl⟩ := e2 v hv
    have hm : V.ref t ∈ xs := by rw [e1]; exact List.mem_map.mpr ⟨_, hv, rfl⟩
    obtain ⟨q0, hq⟩ := hx _ hm
    have hk : kPair X.K H (V.ref t) = q0 := kPair_eq I hq
    obtain ⟨t', e, ht⟩ := hq
    cases e
    obtain ⟨its2, r2, ⟨o, ho, hc, n, hd⟩, _⟩ := I.tuple ht
    obtain ⟨u1, u2, rfl, ri, rj⟩ := vals2 r2
    obtain ⟨t1, rfl⟩ := ri
    obtain ⟨t2, rfl⟩ := rj
    show Srt.IsPair s.heap (.ref t) (kPair X.K H (V.ref t)).1 (kPair X.K H (V.ref t)).2
    rw [hk]
    exact ⟨t, o, t1, t2, n, rfl, ho, hc, hd⟩
  · have h3 : ∀ u ∈ out, ∃ a, u = Value.ref a := fun u hu => e2 u (h2.perm.mem_iff.mp hu)
    obtain ⟨n, hn⟩ := hn
    have hb : SrtO.Stb (ltP (kPair X.K H)) (out.map backV) xs := by
      rw [e1]
      exact SrtO.Stb.map (ltP_swo (kPair X.K H)) backV h2
    refine ⟨.ref d, upd H d (.lst (out.map backV)), I.laid (t' := s.toks) kp hd ⟨?_, out, n, vals_back h3, hn⟩, rfl, q _ _ d (fun x q h => kPair_eq I h) (SrtO.srtd_map h1) hb (I.hok.fresh hd)⟩
    rw [hb.len]
    exact hz
def pairD (q : Int × Int) : PyData := .tuple [.int q.1, .int q.2]
def leP (p q : Int × Int) : Prop := p.1 < q.1 ∨ (p.1 = q.1 ∧ p.2 ≤ q.2)
theorem pairV_of {K : PySem.W.Frag} {G H : Hp} (s : Same G H) {v : V} {q : Int × Int} (h : Dp K G v (pairD q)) : PairV K H v q := by
  cases h with
  | tup sq ha =>
    cases ha with
    | cons h1 t =>
      cases t with
      | cons h2 t =>
        cases t
        cases h1
        cases h2
        exact ⟨_, rfl, sqt_mono s sq⟩
theorem dpa_pairs {K : PySem.W.Frag} {G H : Hp} (s : Same G H) : ∀ {vs : List V} {ps : List (Int × Int)}, DpAll K G vs (ps.map pairD) → ∀ (k : V → Int × Int), (∀ x q, PairV K H x q → k x = q) → ps = vs.map k ∧ ∀ v ∈ vs, Dp K G v (pairD (k v))
  | [], [], _, _, _ => ⟨rfl, fun _ h => nomatch h⟩
  | v :: vs, p :: ps, .cons h t, k, hk => by
    obtain ⟨e, r⟩ := dpa_pairs s t k hk
    have hv : k v = p := hk v p (pairV_of s h)
    refine ⟨by rw [List.map_cons, hv, ← e], fun x hx => ?_⟩
    rcases List.mem_cons.mp hx with rfl | hx
    · rw [hv]
      exact h
    · exact r x hx
theorem dpa_of_all {K : PySem.W.Frag} {G : Hp} {f : V → PyData} : ∀ {vs : List V}, (∀ v ∈ vs, Dp K G v (f v)) → DpAll K G vs (vs.map f)
  | [], _ => .nil
  | v :: vs, h => .cons (h v List.mem_cons_self) (dpa_of_all fun x hx => h x (List.mem_cons_of_mem _ hx))
theorem dpa_pairV {K : PySem.W.Frag} {G H : Hp} (s : Same G H) : ∀ {vs : List V} {ps : List (Int × Int)}, DpAll K G vs (ps.map pairD) → ∀ v ∈ vs, ∃ q, PairV K H v q
  | _ :: _, p :: _, .cons h t, x, hx => by
    rcases List.mem_cons.mp hx with rfl | hx
    · exact ⟨p, pairV_of s h⟩
    · exact dpa_pairV s t x hx
section
variable {S : Type} [MSt S] {X : Cx} {K : PySem.W.Frag} {e : Expr} {te : TE} {dq : DQt S} {p pos : Pos}
omit [MSt S] in
/-- sorted(xs) of pairs of ints: new -/
def dSortP (dq : DQt S) : DFt S := fun ε n P => dq ε n fun k ds n1 => k = false ∧ ∃ ps : List (Int × Int), ds = ps.map pairD ∧ ∀ qs : List (Int × Int), qs.Perm ps → qs.Pairwise leP → P (qs.map pairD) n1
theorem df_sortedP (hg : Gl X "sorted") (hm : X.mg "sorted" = none) (h : DQ K X e te dq) (he : starEach (e :: []) X.env = (false, eval e X.env) :: starEach [] X.env := by rfl) (hpl : (backTo pos (starEach [] X.env)).any (·.1) = false := by rfl) (hK : X.K = K := by rfl) :
    DF K X (.Call (.Name "sorted" p) [e] [] pos) (tCB (rSortedPS K) (tCons te tNil)) (dSortP dq) := by
  subst hK
  exact ⟨pe_callB cr_sortedPS hg hm boot_sorted (pa_cons h.pe pa_nil he) (by decide) (by decide) he hpl, fun bo G0 H0 σ H G ε n P Q R hp k =>
      h.se bo G0 H0 σ H G ε n _ _ R hp fun a vs G1 H1 kk ds n1 g1 b1 _ sq ha h1 => by
        obtain ⟨rfl, ps, rfl, h1⟩ := h1
        refine ⟨a, vs, rfl, .inl (.inl sq), dpa_pairV g1.gh ha, fun kf ys l hkf hsrt hstb hl => ?_⟩
        obtain ⟨e1, e2⟩ := dpa_pairs g1.gh ha kf hkf
        have hy : ∀ y ∈ ys, Dp X.K G1 y (pairD (kf y)) := fun y hy => e2 y (hstb.perm.mem_iff.mp hy)
        refine k l ys G1 _ ((ys.map kf).map pairD) n1 (g1.trans b1 (Grow.out g1.gh hl)) (b1.grow (Grow.out (G := G1) g1.gh hl)) (g1.back b1 hl) (g1.gh.free hl) upd_same ?_ (h1 _ ?_ ?_)
        · rw [List.map_map]
          exact dpa_of_all hy
        · rw [e1]
          exact hstb.perm.map kf
        · refine List.pairwise_map.mpr (hsrt.imp fun {x y} z => ?_)
          have := SrtO.lexB_no.mp z
          unfold leP
          omega⟩
end
end DL

set_option Elab.async false
set_option linter.all false
set_option autoImplicit false
set_option maxRecDepth 100000
namespace DL
open PySem PySem.Spec PyProof.Rows L2 HT
/-! ### xs.index(i) of a list of ints, i being in it -/
def rIdxI (K : PySem.W.Frag) : V → List V → Hp → VK → Prop := fun x xs H Q => ∃ (p : Addr) (ns : List Int) (k : Int), x = .ref p ∧ xs = [.int k] ∧ SqL K H p (ns.map V.int) ∧ k ∈ ns ∧ Q (.int (ns.idxOf k : Nat)) H
theorem mt_lindex {X : Cx} : MtR X "list.index" (rIdxI X.K) := by
  intro pins s σ H x xs v us Q I rx rxs h
  obtain ⟨p, ns, k, rfl, rfl, hs, hk, q⟩ := h
  cases rx
  obtain ⟨u, rfl, ru⟩ := rxs.one
  obtain ⟨t, rfl⟩ := ru
  obtain ⟨its, rv, pl, hlen⟩ := I.list hs
  have hi := ints_of_vals rv
  refine SeqAt.list_index_ints pl.isList hi (by rw [List.length_map] at hlen; exact hlen) hk ?_
  exact ⟨.int (ns.idxOf k : Nat), H, I.tok _, ⟨s.toks, rfl⟩, q⟩
section
variable {S : Type} [MSt S] {X : Cx} {K : PySem.W.Frag} {a e : Expr} {ta te : TE} {da de : DEt S} {apos pos : Pos}
omit [MSt S] in
def dIdx (da de : DEt S) : DEt S := fun ε n P => da ε n fun x n1 => ∃ ns : List Int, x = .list (ns.map PyData.int) ∧ de ε n1 fun y n2 => ∃ i : Int, y = .int i ∧ i ∈ ns ∧ P (.int (ns.idxOf i : Nat)) n2
theorem dpa_ints {G : Hp} : ∀ {vs : List V} {ns : List Int}, DpAll K G vs (ns.map PyData.int) → vs = ns.map V.int
  | [], [], _ => rfl
  | _ :: _, _ :: _, .cons h t => by
    cases h
    rw [dpa_ints t]
    rfl
theorem de_index (ha : DE K X a ta da) (h : DE K X e te de) (hbase : attributeBase a "index" X.env (eval a X.env) = eval a X.env := by rfl)
    (hfew : ((backTo pos (starEach (e :: []) X.env)).all (fun x => !x.1) && (backToKw pos (keywordEach [] X.env)).all (fun x => x.1.isSome)
      && decide ((e :: []).length + ([] : List Keyword).length + (if ([] : List Keyword).isEmpty then 0 else 1) < 30)) = true := by rfl)
    (hline : (apos.endLine == pos.line) = true := by rfl) (hs : starEach (e :: []) X.env = (false, eval e X.env) :: starEach [] X.env := by rfl) (hplain : (backTo pos (starEach [] X.env)).any (·.1) = false := by rfl) (hK : X.K = K := by rfl) :
    DE K X (.Call (.Attribute a "index" apos) [e] [] pos) (tBM K "list" (rIdxI K) ta (tCons te tNil)) (dIdx da de) := by
  subst hK
  refine ⟨pe_bm PySem.F.plainAttrs_list PySem.F.slot_list_index PySem.F.type_list_index mt_lindex ha.pe (pa_cons h.pe pa_nil hs) hbase hfew hline hs hplain, fun bo G0 H0 σ H G ε n P Q R hp k =>
    ha.se bo G0 H0 σ H G ε n _ _ R hp fun x G1 H1 dx n1 g1 b1 p1 h1 => ?_⟩
  obtain ⟨ns, rfl, h1⟩ := h1
  cases p1 with
  | @lst l vs _ hl hd =>
    cases dpa_ints hd
    refine ⟨.inl ⟨rfl, _, .inl (.inl (g1.gh _ _ hl))⟩, h.se bo G0 H0 σ H1 G1 ε n1 _ _ (R.grow g1 b1) h1 fun y G2 H2 dy n2 g2 b2 p2 h2 => ?_⟩
    obtain ⟨i, rfl, hi, h2⟩ := h2
    cases p2
    exact ⟨l, ns, i, rfl, rfl, .inl (.inl (g2.gh _ _ (g2.gg _ _ hl))), hi, k _ G2 H2 _ n2 (g1.trans b1 g2) b2 (.int _) h2⟩
end
end DL

set_option Elab.async false
set_option linter.all false
set_option autoImplicit false
set_option maxRecDepth 100000
namespace DL
open PySem PySem.Spec PyProof.Rows L2 HT
section
variable {X : Cx} {S : Type} [MOw S] {K : PySem.W.Frag} {pos : Pos}
theorem dss_fgt (i : Nat) {sts : List Stmt} {t : TS} {d1 : DSt S} (h : DSs K X sts t d1) (hK : X.K = K := by rfl) : DSs K X sts t (dFgt i d1) := by
  subst hK
  refine ⟨h.ps, fun bo G0 H0 σ H G ε n D DD r l q => ?_⟩
  by_cases e : ∃ x, σ[i]? = some x
  · obtain ⟨x, e⟩ := e
    have r1 := r.setNo x i
    have e2 : σ.set i x = σ := by
      obtain ⟨h1, h2⟩ := List.getElem?_eq_some_iff.mp e
      rw [← h2, List.set_getElem_self]
    rw [e2] at r1
    exact h.ss bo G0 H0 σ H G _ n D DD r1 l q
  · have hl : ε.length ≤ i := by
      rw [← r.ln]
      exact Nat.le_of_not_lt fun z => e ⟨_, List.getElem?_eq_getElem z⟩
    have q : d1 DD (ε.set i .no) n := q
    rw [List.set_eq_of_length_le hl] at q
    exact h.ss bo G0 H0 σ H G _ n D DD r l q
omit [MOw S] in
/-- for one statement the thing of one's own in slot i is the one thing -/
def dFoc1 (i : Nat) (d1 : DSt Own) : DSt S := fun D ε n => (∀ j : Nat, ε[j]? ≠ some Sl.bx) ∧ ∃ s o, ε[i]? = some s ∧ s.own = some o ∧ isRef o ∧ d1 { nx := fun ε' o' => ε'[i]? = some .bx ∧ (∀ j : Nat, j ≠ i → ε'[j]? ≠ some Sl.bx) ∧ D.nx (ε'.set i (.ob o')) n, rt := fun _ _ => False } (ε.set i .bx) o
theorem ds_foc1 (i : Nat) {st : Stmt} {t : TS} {d1 : DSt Own} (h : DS (S := Own) K X st t d1) (hK : X.K = K := by rfl) : DS (S := S) K X st t (dFoc1 i d1) := by
  subst hK
  refine ⟨h.ps, fun bo G0 H0 σ H G ε n D DD r l q => ?_⟩
  obtain ⟨hnb, s, o, e1, e2, ir, q⟩ := q
  obtain ⟨fp, h1, h2, h3⟩ := r.own
  obtain ⟨v, hv, hr⟩ := h3 i s o e1 e2
  obtain ⟨ad, rfl⟩ := ref_of hr ir
  have hle : ∀ a u, lessF H fp a = some u → H a = some u ∧ ∀ j, a ∉ fp j := fun a u z => by
    by_cases e : ∃ j, a ∈ fp j
    · obtain ⟨j, e⟩ := e
      rw [lessF_in e] at z
      cases z
    · have e' : ∀ j, a ∉ fp j := fun j y => e ⟨j, y⟩
      rw [lessF_out e'] at z
      exact ⟨z, e'⟩
  have r' : Rl (S := Own) X.K (some ⟨ad, fp i⟩) G (lessF H fp) σ H G (ε.set i .bx) o := by
    refine ⟨⟨Same.refl G, r.gh, fun _ _ z => z, fun a u _ z => (hle a u z).1⟩, ⟨fp i, hr, fun a ha => ha, hr.ne⟩, fun a ha => (h2 i a ha).1, by rw [List.length_set]; exact r.ln, fun j d q => ?_, fun j q => ?_, fun j o' q => ?_, ⟨fun j => if j = i then [] else fp j, fun j k a hjk ha hb => ?_, fun j a ha => ?_, fun j s' o' q hs' => ?_⟩⟩
    · rcases get_set q with ⟨rfl, _, z⟩ | ⟨hne, q⟩
      · cases z
      · exact r.im j d q
    · rcases get_set q with ⟨rfl, _, z⟩ | ⟨hne, q⟩
      · exact ⟨_, rfl, hv⟩
      · exact absurd q (hnb j)
    · rcases get_set q with ⟨rfl, _, z⟩ | ⟨hne, q⟩
      · cases z
      · exact r.rd j o' q
    · by_cases z1 : j = i
      · simp only [if_pos z1] at ha
        cases ha
      · by_cases z2 : k = i
        · simp only [if_pos z2] at hb
          cases hb
        · simp only [if_neg z1] at ha
          simp only [if_neg z2] at hb
          exact h1 j k a hjk ha hb
    · by_cases z1 : j = i
      · simp only [if_pos z1] at ha
        cases ha
      · simp only [if_neg z1] at ha
        exact ⟨(h2 j a ha).1, fun z => h1 j i a z1 ha z, lessF_in ha, (h2 j a ha).2.2.2⟩
    · rcases get_set q with ⟨rfl, _, z⟩ | ⟨hne, q⟩
      · rw [z] at hs'
        cases hs'
      · obtain ⟨w, q1, q2⟩ := h3 j s' o' q hs'
        refine ⟨w, q1, ?_⟩
        simp only [if_neg (Ne.symm hne)]
        exact q2
  have nf : ∀ a, H0 a ≠ none → ∀ j, a ∉ fp j := fun a z j y => z (h2 j a y).2.2.1
  have nb : ∀ a, Has bo a → ∀ j, a ∉ fp j := fun a z j y => (h2 j a y).2.1 z
  have hHn : ∀ a, H0 a ≠ none → H a ≠ none := fun a z => by
    by_cases y : Has bo a
    · exact r.bx.some_ne y
    · exact st_ne z fun u w => r.gr.kp a u y w
  refine h.ss (some ⟨ad, fp i⟩) G (lessF H fp) σ H G _ o D { nx := fun ε' o' => ε'[i]? = some .bx ∧ (∀ j : Nat, j ≠ i → ε'[j]? ≠ some Sl.bx) ∧ DD.nx (ε'.set i (.ob o')) n, rt := fun _ _ => False } r' ⟨fun σ' H' G' ε' o' r2 z => ?_, fun _ _ _ _ _ _ _ _ z => z.elim, fun _ _ _ _ _ _ z => z.elim, fun _ _ _ _ _ _ z => z.elim, fun _ _ _ _ _ _ _ _ _ _ z => z.elim⟩ q
  obtain ⟨hbx, hno, hnx⟩ := z
  have g := r2.gr
  have kp : ∀ a u, (∀ j, a ∉ fp j) → H a = some u → H' a = some u := fun a u z1 z2 => g.kp a u (fun y => z1 i y) (by rw [lessF_out z1]; exact z2)
  obtain ⟨b', eb, hσ⟩ := r2.bs i hbx
  cases eb
  obtain ⟨f', hr', hs', hne'⟩ := r2.bx
  obtain ⟨fp', k1, k2, k3⟩ := r2.own
  have hil := get_len hbx
  refine l.nx σ' H' G' _ n ?_ hnx
  refine ⟨⟨r.gr.gg.trans g.gg, g.gh, fun a z1 z2 => g.fr a (by rw [lessF_out (nf a z1)]; exact hHn a z1) (r.gr.fr a z1 z2), fun a u z1 z2 => kp a u (nf a (by rw [z2]; exact fun y => nomatch y)) (r.gr.kp a u z1 z2)⟩,
    r.bx.keep g.gg fun a ha u y => kp a u (nb a ha) y, fun a ha => g.fr a (by rw [lessF_out (nb a ha)]; exact r.bx.some_ne ha) (r.gb a ha), by rw [List.length_set]; exact r2.ln, fun j d q => ?_, fun j q => ?_, fun j o' q => ?_, ⟨fun j => if j = i then f' else fp' j, fun j k a hjk ha hb => ?_, fun j a ha => ?_, fun j s' o' q hs' => ?_⟩⟩
  · rcases get_set q with ⟨rfl, _, z⟩ | ⟨hne, q⟩
    · cases z
    · exact r2.im j d q
  · rcases get_set q with ⟨rfl, _, z⟩ | ⟨hne, q⟩
    · cases z
    · exact absurd q (hno j (Ne.symm hne))
  · rcases get_set q with ⟨rfl, _, z⟩ | ⟨hne, q⟩
    · cases z
    · exact r2.rd j o' q
  · by_cases z1 : j = i
    · have z2 : k ≠ i := fun z => hjk (z1.trans z.symm)
      simp only [if_pos z1] at ha
      simp only [if_neg z2] at hb
      exact (k2 k a hb).2.1 (hs' a ha)
    · simp only [if_neg z1] at ha
      by_cases z2 : k = i
      · simp only [if_pos z2] at hb
        exact (k2 j a ha).2.1 (hs' a hb)
      · simp only [if_neg z2] at hb
        exact k1 j k a hjk ha hb
  · by_cases z1 : j = i
    · simp only [if_pos z1] at ha
      have ha2 := hs' a ha
      exact ⟨r2.gb a ha2, (h2 i a ha2).2.1, (h2 i a ha2).2.2.1, hne' a ha2⟩
    · simp only [if_neg z1] at ha
      obtain ⟨y1, y2, y3, y4⟩ := k2 j a ha
      exact ⟨y1, fun z => r.bx.some_ne z (by rw [← lessF_out (H := H) (fp := fp) (nb a z)]; exact y3), Classical.byContradiction fun z => hHn a z (by rw [← lessF_out (H := H) (fp := fp) (nf a z)]; exact y3), y4⟩
  · rcases get_set q with ⟨rfl, _, z⟩ | ⟨hne, q⟩
    · rw [z] at hs'
      cases hs'
      exact ⟨_, hσ, by simp only [if_true]; exact hr'⟩
    · obtain ⟨w, q1, q2⟩ := k3 j s' o' q hs'
      refine ⟨w, q1, ?_⟩
      simp only [if_neg (Ne.symm hne)]
      exact q2
end
section
variable {X : Cx} {S : Type} [MSt S] {K : PySem.W.Frag} {ta tb : TE} {da : DEt S} {db : DNt S} {i j : Nat} {x y : Str} {a b : Expr} {px py pt pos : Pos} {kt k2 pt2}
omit [MSt S] in
/-- a, b = e, [a new thing] -/
def dParFN (i j : Nat) (da : DEt S) (db : DNt S) : DSt S := fun D ε n => da ε n fun d n1 => db ε n1 fun o n2 => D.nx ((ε.set i (.im d)).set j (.ob o)) n2
theorem ds_parFN (hc : X.calm = true) (hN : X.N.Nodup) (hi : X.N[i]? = some x) (hj : X.N[j]? = some y) (hij : i ≠ j) (hx : X.env.scope.names.lookup x = some .local) (hy : X.env.scope.names.lookup y = some .local) (h1 : DE K X a ta da) (h2 : DN K X b tb db)
    (hw : swappedStores [.Tuple [.Name x px, .Name y py] kt pt] (.Tuple [a, b] k2 pt2) X.env = pure (some [x, y])) (hs : swapsWithSole [.Tuple [.Name x px, .Name y py] kt pt] (.Tuple [a, b] k2 pt2) pos.line X.env = pure false := by rfl)
    (s1 : starEach [a, b] X.env = (false, eval a X.env) :: starEach [b] X.env := by rfl) (s2 : starEach [b] X.env = (false, eval b X.env) :: starEach [] X.env := by rfl) (hK : X.K = K := by rfl) :
    DS K X (.Assign [.Tuple [.Name x px, .Name y py] kt pt] (.Tuple [a, b] k2 pt2) pos) (tPar i j (tCons ta (tCons tb tNil))) (dParFN i j da db) := by
  subst hK
  refine ⟨ps_par hc hN hi hj hij hx hy (pa_cons h1.pe (pa_cons h2.pe pa_nil s2) s1) hw hs, fun bo G0 H0 σ H G ε n D DD r l q => ?_⟩
  refine h1.se bo G0 H0 σ H G ε n _ _ r q fun v G1 H1 d n1 g1 b1 p1 q1 => ?_
  have r1 := r.grow g1 b1
  refine h2.se bo G0 H0 σ H1 G1 ε n1 _ _ r1 q1 fun u G2 H2 o f n2 g2 b2 r2 e2 q2 => ?_
  exact ⟨v, u, rfl, l.nx _ H2 G2 _ n2 ((r1.setIm p1 i).setOb g2 b2 (s := .ob o) rfl r2 e2 j) q2⟩
end
end DL

set_option Elab.async false
set_option linter.all false
set_option autoImplicit false
set_option maxRecDepth 100000
namespace DL
open PySem PySem.Spec PyProof.Rows L2 HT
/-! ### comprehensions of two clauses -/
section
variable {S : Type}
def lc2Run (dg : DGt) (dt : DTt S) (di1 : DIt S) (dg1 : DGt) (dt1 : DTt S) (de : DEt S) (vs1 : List Nat) (ε : En) (P : List PyData → S → Prop) : List PyData → List PyData → S → Prop
  | [], acc, n => P acc n
  | x :: r, acc, n => dg x ε fun ε' => dt ε' n fun b n1 => if b = true then di1 ε' n1 fun items1 n2 => acc.length + items1.length ≤ 50000 ∧ lcRun dg1 dt1 de (dwipe ε' vs1) (fun acc' n' => lc2Run dg dt di1 dg1 dt1 de vs1 ε P r acc' n') items1 acc n2 else lc2Run dg dt di1 dg1 dt1 de vs1 ε P r acc n1
def dLc2 (di : DIt S) (dg : DGt) (dt : DTt S) (di1 : DIt S) (dg1 : DGt) (dt1 : DTt S) (de : DEt S) (vs vs1 : List Nat) : DFt S := fun ε n P => di ε n fun items n1 => lc2Run dg dt di1 dg1 dt1 de vs1 (dwipe ε vs) P items [] n1
end
variable {S : Type} [MSt S]
/-- from here on only the place D is kept in mind -/
def only (D : Addr) (u : HO) : Hp := upd (fun _ => none) D u
theorem only_ne {D a : Addr} {u : HO} (h : a ≠ D) : only D u a = none := upd_ne h
theorem only_at {D : Addr} {u : HO} : only D u D = some u := upd_same
section
variable {K : PySem.W.Frag} {bo : Option Bo} {G0 H0 : Hp} {σ : L2.St} {H G : Hp} {ε : En} {n : S}
theorem Rl.rebase (r : Rl K bo G0 H0 σ H G ε n) {D : Addr} (hD : H D = none) {G' H' : Hp} {n' : S} (g : Grow bo G H G' H') (hb : BoxO K G' H' bo n') {u : HO} (hG : G' D = none) (hH : H' D = some u) : Rl K bo (fun _ => none) (only D u) σ H' G' ε n' := by
  obtain ⟨fp, h1, h2, h3⟩ := r.own
  have r' := r.grow g hb
  refine ⟨⟨(fun a o z => nomatch z), g.gh, fun a z _ => ?_, fun a o _ z => ?_⟩, hb, r'.gb, r'.ln, r'.im, r'.bs, r'.rd, fp, h1, fun i a ha => ?_, fun i s o hi ho => ?_⟩
  · by_cases e : a = D
    · rw [e]
      exact hG
    · exact absurd (only_ne e) z
  · by_cases e : a = D
    · rw [e] at z ⊢
      rw [only_at] at z
      rw [hH, z]
    · rw [only_ne e] at z
      cases z
  · obtain ⟨q1, q2, q3, q4⟩ := h2 i a ha
    refine ⟨g.fr a q4 q1, q2, only_ne fun e => q4 (by rw [e]; exact hD), st_ne q4 fun u w => g.kp a u q2 w⟩
  · obtain ⟨v, hv, hr⟩ := h3 i s o hi ho
    exact ⟨v, hv, hr.keep g.gg fun a ha u hu => g.kp a u (h2 i a ha).2.1 hu⟩
theorem Rl.updOnly {D : Addr} {u u' : HO} (r : Rl K bo (fun _ => none) (only D u) σ H G ε n) (hG : G D = none) (hn : ¬ Has bo D) : Rl K bo (fun _ => none) (only D u') σ (upd H D u') G ε n := by
  obtain ⟨fp, h1, h2, h3⟩ := r.own
  have ne : ∀ i, ∀ a ∈ fp i, a ≠ D := fun i a ha e => by
    have := (h2 i a ha).2.2.1
    rw [e, only_at] at this
    cases this
  refine ⟨⟨(fun a o z => nomatch z), fun a o z => ?_, fun a z _ => ?_, fun a o _ z => ?_⟩, r.bx.keep (Same.refl G) (fun a ha u q => by rw [upd_ne (fun e => hn (by rw [← e]; exact ha))]; exact q), r.gb, r.ln, r.im, r.bs, r.rd, fp, h1, fun i a ha => ?_, fun i s o hi ho => ?_⟩
  · rw [upd_ne (ne_of_none z hG)]
    exact r.gh a o z
  · by_cases e : a = D
    · rw [e]
      exact hG
    · exact absurd (only_ne e) z
  · by_cases e : a = D
    · rw [e] at z ⊢
      rw [only_at] at z
      rw [upd_same, z]
    · rw [only_ne e] at z
      cases z
  · obtain ⟨q1, q2, q3, q4⟩ := h2 i a ha
    exact ⟨q1, q2, only_ne (ne i a ha), by rw [upd_ne (ne i a ha)]; exact q4⟩
  · obtain ⟨v, hv, hr⟩ := h3 i s o hi ho
    exact ⟨v, hv, hr.keep (Same.refl G) fun a ha u hu => by rw [upd_ne (ne i a ha)]; exact hu⟩
end
theorem sf_lc2 {K : PySem.W.Frag} {wi wi1 : TI} {g g1 : TG} {tt tt1 : TT} {te : TE} {di di1 : DIt S} {dg dg1 : DGt} {dt dt1 : DTt S} {de : DEt S} {vs vs1 ts ts1 : List Nat} (hi : SI K wi di) (hg : SG K g dg ts) (ht : STt K tt dt) (hi1 : SI K wi1 di1) (hg1 : SG K g1 dg1 ts1) (ht1 : STt K tt1 dt1) (he : SE K te de) (hts : ∀ i ∈ ts, i ∈ vs) (hts1 : ∀ i ∈ ts1, i ∈ vs1) :
    SF K (tLc2 wi g tt wi1 g1 tt1 te vs vs1) (dLc2 di dg dt di1 dg1 dt1 de vs vs1) := fun bo G0 H0 σ H G ε n P Q R hp k =>
  hi bo G0 H0 σ H G ε n _ _ R hp fun J G1 H1 items n1 gA b1 w1 h1 D hD => by
    have R1 := R.grow gA b1
    have hGD : G1 D = none := gA.gh.free hD
    have hHD : H D = none := gA.back b1 hD
    have hnb : ¬ Has bo D := fun z => (b1.some_ne z) hD
    have nn : ∀ {o : HO}, some o ≠ none := fun z => nomatch z
    refine ⟨fun i m H' => ∃ G' n' ws acc, Grow bo G1 H1 G' H' ∧ BoxO K G' H' bo n' ∧ G' D = none ∧ H' D = some (.lst ws) ∧ DpAll K G' ws acc ∧ i + m = items.length ∧ lc2Run dg dt di1 dg1 dt1 de vs1 (dwipe ε vs) P (items.drop i) acc n', ?_, fun i m H' hW => ?_⟩
    · exact ⟨items.length, G1, n1, [], [], Grow.out gA.gh hD, b1.grow (Grow.out (G := G1) gA.gh hD), hGD, upd_same, .nil, Nat.zero_add _, h1⟩
    · obtain ⟨G', n', ws, acc, gg, bb, hG', hH', ha, him, hrun⟩ := hW
      have W := w1 i G' H' gg.gg gg.gh
      have R' := (R1.rebase hD gg bb hG' hH').wipe vs
      by_cases hlt : i < items.length
      · obtain ⟨hgo, hy⟩ := W.1 items[i] (List.getElem?_eq_getElem hlt)
        rw [List.drop_eq_getElem_cons hlt] at hrun
        refine .inr ⟨hgo, fun H2 => ∃ G2 n2 ws acc, Grow bo G1 H1 G2 H2 ∧ BoxO K G2 H2 bo n2 ∧ G2 D = none ∧ H2 D = some (.lst ws) ∧ DpAll K G2 ws acc ∧ lc2Run dg dt di1 dg1 dt1 de vs1 (dwipe ε vs) P (items.drop (i + 1)) acc n2, fun H2 h2 => ?_, fun x H2 hx => ?_⟩
        · obtain ⟨G2, n2, ws2, acc2, q1, q2, q3, q4, q5, q7⟩ := h2
          exact ⟨m - 1, by omega, G2, n2, ws2, acc2, q1, q2, q3, q4, q5, by omega, q7⟩
        · obtain ⟨G2, g2, hdp⟩ := hy x H2 hx
          have R2 := R'.grow g2.any (bb.grow g2)
          have hD2 : H2 D = some (.lst ws) := g2.kp D _ (fun z => nomatch z) hH'
          have hGD2 : G2 D = none := g2.fr D (by rw [hH']; exact fun z => nomatch z) hG'
          have gg2 := gg.trans bb (g2.any (bo := bo))
          refine hg bo _ _ (wipe σ vs) H2 G2 _ _ x items[i] _ _ R2 hdp hrun fun σ3 ε3 R3 hw hrun3 => ⟨?_, ?_⟩
          · rw [hw vs hts, wipe_all σ vs vs fun _ h => h]
          · refine ht bo _ _ σ3 H2 G2 ε3 _ _ _ R3 hrun3 fun b G4 H4 n4 g4 b4 hrun4 => ?_
            have hD4 : H4 D = some (.lst ws) := g4.kp D _ hnb hD2
            have hGD4 : G4 D = none := g4.fr D (by rw [hD2]; exact fun z => nomatch z) hGD2
            have gg4 := gg2.trans (bb.grow g2) g4
            have ha4 := dpa_mono (g2.gg.trans g4.gg) ha
            have R4 := R3.grow g4 b4
            cases b with
            | false => exact ⟨G4, n4, ws, acc, gg4, b4, hGD4, hD4, ha4, hrun4⟩
            | true =>
              refine hi1 bo _ _ σ3 H4 G4 ε3 n4 _ _ R4 hrun4 fun J1 G5 H5 items1 n5 g5 b5 w5 h5 => ?_
              obtain ⟨hlen, h5⟩ := h5
              have hD5 : H5 D = some (.lst ws) := g5.kp D _ hnb hD4
              have hGD5 : G5 D = none := g5.fr D (by rw [hD4]; exact fun z => nomatch z) hGD4
              have gg5 := gg4.trans b4 g5
              have R5 := R4.grow g5 b5
              refine ⟨fun j k H6 => ∃ G6 n6 ws acc', Same G5 G6 ∧ Grow bo G1 H1 G6 H6 ∧ Rl K bo (fun _ => none) (only D (.lst ws)) σ3 H6 G6 ε3 n6 ∧ G6 D = none ∧ H6 D = some (.lst ws) ∧ DpAll K G6 ws acc' ∧ acc'.length ≤ acc.length + j ∧ j + k = items1.length ∧ lcRun dg1 dt1 de (dwipe ε3 vs1) (fun acc' n' => lc2Run dg dt di1 dg1 dt1 de vs1 (dwipe ε vs) P (items.drop (i + 1)) acc' n') (items1.drop j) acc' n6, ?_, fun j k H6 hV => ?_⟩
              · exact ⟨items1.length, G5, n5, ws, acc, Same.refl _, gg5, R5, hGD5, hD5, dpa_mono g5.gg ha4, Nat.le_refl _, Nat.zero_add _, h5⟩
              · obtain ⟨G6, n6, ws6, acc6, g56, gg6, bb6, hG6, hH6, ha6, hal6, hjk, hrun6⟩ := hV
                have V := w5 j G6 H6 g56 gg6.gh
                have R6 := bb6.wipe vs1
                by_cases hlt1 : j < items1.length
                · obtain ⟨hgo1, hy1⟩ := V.1 items1[j] (List.getElem?_eq_getElem hlt1)
                  rw [List.drop_eq_getElem_cons hlt1] at hrun6
                  refine .inr ⟨hgo1, fun H7 => ∃ G7 n7 ws acc', Same G5 G7 ∧ Grow bo G1 H1 G7 H7 ∧ Rl K bo (fun _ => none) (only D (.lst ws)) σ3 H7 G7 ε3 n7 ∧ G7 D = none ∧ H7 D = some (.lst ws) ∧ DpAll K G7 ws acc' ∧ acc'.length ≤ acc.length + (j + 1) ∧ lcRun dg1 dt1 de (dwipe ε3 vs1) (fun acc' n' => lc2Run dg dt di1 dg1 dt1 de vs1 (dwipe ε vs) P (items.drop (i + 1)) acc' n') (items1.drop (j + 1)) acc' n7, fun H7 h7 => ?_, fun y H7 hyy => ?_⟩
                  · obtain ⟨G7, n7, ws7, acc7, q1, q2, q3, q4, q5, q6, q7, q8⟩ := h7
                    exact ⟨k - 1, by omega, G7, n7, ws7, acc7, q1, q2, q3, q4, q5, q6, q7, by omega, q8⟩
                  · obtain ⟨G7, g7, hdp7⟩ := hy1 y H7 hyy
                    have bb7 := bb6.bx.grow g7
                    have R7 := R6.grow g7.any bb7
                    have hD7 : H7 D = some (.lst ws6) := g7.kp D _ (fun z => nomatch z) hH6
                    have hGD7 : G7 D = none := g7.fr D (by rw [hH6]; exact fun z => nomatch z) hG6
                    have ga7 := Same.trans g56 g7.gg
                    have gg7 := gg6.trans bb6.bx (g7.any (bo := bo))
                    refine hg1 bo _ _ (wipe σ3 vs1) H7 G7 _ _ y items1[j] _ _ R7 hdp7 hrun6 fun σ8 ε8 R8 hw8 hrun8 => ⟨?_, ?_⟩
                    · rw [hw8 vs1 hts1, wipe_all σ3 vs1 vs1 fun _ h => h]
                    · refine ht1 bo _ _ σ8 H7 G7 ε8 _ _ _ R8 hrun8 fun b' G9 H9 n9 g9 b9 hrun9 => ?_
                      have hD9 : H9 D = some (.lst ws6) := g9.kp D _ hnb hD7
                      have hGD9 : G9 D = none := g9.fr D (by rw [hD7]; exact fun z => nomatch z) hGD7
                      have ga9 := Same.trans ga7 g9.gg
                      have r9 := (bb6.grow g7.any bb7).grow g9 b9
                      have gg9 := gg7.trans bb7 g9
                      have ha9 := dpa_mono (g7.gg.trans g9.gg) ha6
                      cases b' with
                      | false => exact ⟨G9, n9, ws6, acc6, ga9, gg9, r9, hGD9, hD9, ha9, Nat.le_succ_of_le hal6, hrun9⟩
                      | true =>
                        refine he bo _ _ σ8 H9 G9 ε8 n9 _ _ (R8.grow g9 b9) hrun9 fun z GA HA d nA gA' bA hdz hrunA => ?_
                        have hDA : HA D = some (.lst ws6) := gA'.kp D _ hnb hD9
                        have hGDA : GA D = none := gA'.fr D (by rw [hD9]; exact fun z => nomatch z) hGD9
                        have haA := dpa_mono gA'.gg ha9
                        have hH5D : H5 D ≠ none := by rw [hD5]; exact fun z => nomatch z
                        refine ⟨ws6, hDA, szl (by rw [dpa_len haA]; omega), GA, nA, ws6 ++ [z], acc6 ++ [d], Same.trans ga9 gA'.gg, (gg9.trans b9 gA').mutNew hD hGDA, (r9.grow gA' bA).updOnly hGDA hnb, hGDA, upd_same, dpa_app hdz haA, by rw [List.length_append]; simp; omega, hrunA⟩
                · rw [List.drop_eq_nil_of_le (as := items1) (i := j) (by omega)] at hrun6
                  exact .inl ⟨V.2 (by omega), G6, n6, ws6, acc6, gg6, bb6.bx, hG6, hH6, ha6, hrun6⟩
      · refine .inl ⟨W.2 (by omega), ?_⟩
        rw [List.drop_eq_nil_of_le (by omega)] at hrun
        exact k D ws G' H' acc n' (gA.trans b1 gg) bb hHD hG' hH' ha hrun
theorem df_lc2 {X : Cx} {K : PySem.W.Frag} {elt tg iter tg1 iter1 : Expr} {ifs ifs1 : List Expr} {scope : Scope} {own : List (Str × Nat)} {vs1 : List Nat} {pos : Pos} {wi wi1 : TI} {g g1 : TG} {tt tt1 : TT} {te : TE} {di di1 : DIt S} {dg dg1 : DGt} {dt dt1 : DTt S} {de : DEt S} {ts ts1 : List Nat} (hc : X.calm = true) (hN : X.N.Nodup) (hi : DI K X tg iter wi di) (ok : BlkOk X.N X.env.scope scope own)
    (hg : ∀ (s : Shared) (H : Hp) (C : Addr) (cl : List (Str × Addr)) (fp : List Addr), DG K (X.blk s H scope (compEnvC scope cl C X.env) fp) tg g dg ts) (ht : ∀ (s : Shared) (H : Hp) (C : Addr) (cl : List (Str × Addr)) (fp : List Addr), DTs K (X.blk s H scope (compEnvC scope cl C X.env) fp) ifs tt dt)
    (hi1 : ∀ (s : Shared) (H : Hp) (C : Addr) (cl : List (Str × Addr)) (fp : List Addr), DI K (X.blk s H scope (compEnvC scope cl C X.env) fp) tg1 iter1 wi1 di1)
    (hg1 : ∀ (s : Shared) (H : Hp) (C : Addr) (cl : List (Str × Addr)) (fp : List Addr), DG K (X.blk s H scope (compEnvC scope cl C X.env) fp) tg1 g1 dg1 ts1) (ht1 : ∀ (s : Shared) (H : Hp) (C : Addr) (cl : List (Str × Addr)) (fp : List Addr), DTs K (X.blk s H scope (compEnvC scope cl C X.env) fp) ifs1 tt1 dt1)
    (he : ∀ (s : Shared) (H : Hp) (C : Addr) (cl : List (Str × Addr)) (fp : List Addr), DE K (X.blk s H scope (compEnvC scope cl C X.env) fp) elt te de) (hv : ∀ i ∈ vs1, i ∈ own.map (·.2) := by decide) (hts : ∀ i ∈ ts, i ∈ own.map (·.2) := by decide) (hts1 : ∀ i ∈ ts1, i ∈ vs1 := by decide) (hs : ∀ x, foldedSetIterable iter X.env x = pure x := by intro _; rfl) (hs1 : ∀ env x, foldedSetIterable iter1 env x = pure x := by intro _ _; rfl) (hK : X.K = K := by rfl) :
    DF K X (.ListComp elt [⟨tg, iter, ifs, 0⟩, ⟨tg1, iter1, ifs1, 0⟩] scope pos) (tLc2 wi g tt wi1 g1 tt1 te (own.map (·.2)) vs1) (dLc2 di dg dt di1 dg1 dt1 de (own.map (·.2)) vs1) := by
  subst hK
  exact ⟨pe_lc2 hc hN hi.pi ok hv (fun s H C cl fp => (hg s H C cl fp).pg) (fun s H C cl fp => (ht s H C cl fp).pt) (fun s H C cl fp => (hi1 s H C cl fp).pi) (fun s H C cl fp => (hg1 s H C cl fp).pg) (fun s H C cl fp => (ht1 s H C cl fp).pt) (fun s H C cl fp => (he s H C cl fp).pe) hs hs1,
     sf_lc2 hi.si (hg X.s_0 X.H_0 0 [] []).sg (ht X.s_0 X.H_0 0 [] []).st (hi1 X.s_0 X.H_0 0 [] []).si (hg1 X.s_0 X.H_0 0 [] []).sg (ht1 X.s_0 X.H_0 0 [] []).st (he X.s_0 X.H_0 0 [] []).se hts hts1⟩
end DL

set_option Elab.async false
set_option linter.all false
set_option autoImplicit false
set_option maxRecDepth 100000
namespace DL
open PySem PySem.Spec PyProof.Rows L2 HT
section
variable {X : Cx} {S : Type} [MSt S] {K : PySem.W.Frag} {te tf : TE} {df dg2 : DFt S}
omit [MSt S] in
/-- x, y = [..], [..], both lists of one's own -/
def dAsgOO (i j : Nat) (df dg2 : DFt S) : DSt S := fun D ε n => df ε n fun ds n1 => dg2 ε n1 fun es n2 => D.nx ((ε.set i (.ow ds)).set j (.ow es)) n2
theorem ds_asgOO (i j : Nat) {e f tg : Expr} {x1} {p2 pos : Pos} {dg : DGt} {ts : List Nat} (h1 : DF K X e te df) (h2 : DF K X f tf dg2) (hg : DG K X tg (gTup K 2 (gCons (gName i) (gCons (gName j) gNil))) dg ts)
    (hs : swapsWithSole [tg] (.Tuple [e, f] x1 p2) pos.line X.env = pure false := by rfl) (hw : swappedStores [tg] (.Tuple [e, f] x1 p2) X.env = pure none := by rfl) (ha : (assignEach [tg] X.env).map (·.2) = [assign tg X.env] := by rfl)
    (s1 : starEach [e, f] X.env = (false, eval e X.env) :: starEach [f] X.env := by rfl) (s2 : starEach [f] X.env = (false, eval f X.env) :: starEach [] X.env := by rfl) (hK : X.K = K := by rfl) :
    DS K X (.Assign [tg] (.Tuple [e, f] x1 p2) pos) (tAsg (tTup (tCons te (tCons tf tNil))) (gTup K 2 (gCons (gName i) (gCons (gName j) gNil)))) (dAsgOO i j df dg2) := by
  subst hK
  refine ⟨(ds_asg (de_tup (da_cons (df_de h1) (da_cons (df_de h2) da_nil s2) s1)) hg hs hw ha).ps, fun bo G0 H0 σ H G ε n D DD r l q => ?_⟩
  refine h1.se bo G0 H0 σ H G ε n _ _ r q fun b us G1 H1 d n1 g1 b1 hn1 hg1 hH1 hd1 q1 => ?_
  refine h2.se bo G0 H0 σ H1 G1 ε n1 _ _ (r.grow g1 b1) q1 fun a vs G2 H2 ds n2 g2 b2 hn hg hH hd q2 => ?_
  refine ⟨sz (by show 2 ≤ 100000; decide), fun p hp => ⟨p, _, rfl, .inl (.inl upd_same), rfl, _, _, rfl, _, _, rfl, rfl, ?_⟩⟩
  have kp : ∀ c u, H2 c = some u → upd H2 p (.tup [.ref b, .ref a]) c = some u := fun c u z => by
    rw [upd_ne (ne_of_none z hp)]
    exact z
  have g3 : Grow bo G1 H1 G2 (upd H2 p (.tup [.ref b, .ref a])) := ⟨g2.gg, fun c u z => kp c u (g2.gh c u z), g2.fr, fun c u z1 z2 => kp c u (g2.kp c u z1 z2)⟩
  exact l.nx _ _ G2 _ n2 ((r.setOw g1 b1 hn1 hg1 hH1 hd1 i).setOw g3 (b2.keep (Same.refl G2) fun c _ u z => kp c u z) hn hg (kp _ _ hH) hd j) q2
end
end DL

set_option Elab.async false
set_option linter.all false
set_option autoImplicit false
set_option maxRecDepth 100000
namespace DL
open PySem PySem.Spec PyProof.Rows L2 HT
/-! ### len(set(xs)), xs a list or a tuple of ints -/
def rLenSet (w : World) : List V → Hp → VK → Prop := fun vs H Q => ∃ (a : Addr) (S : Int → Bool) (n : Nat), vs = [V.ref a] ∧ H a = some (SetO w a S n) ∧ ∀ L : List Int, L.Nodup → (∀ k : Int, k ∈ L ↔ S k = true) → Q (.int (L.length : Nat)) H
theorem cr_lenSet {X : Cx} : CallR X (.builtin "len") (rLenSet X.w) := by
  intro pins s σ H vs us Q I r h
  obtain ⟨a, S, n, rfl, ha, q⟩ := h
  have R := setO_get I ha
  rw [Vals.ref1 r]
  obtain ⟨o, es, ep, t, ho, hex, hd, hg, hnd, hS, hsz, hf, hn, hr, hw⟩ := R
  have q2 := q (es.toList.map keyOf) hnd (fun k => (hS k).symm)
  rw [List.length_map, Array.length_toList] at q2
  refine call_len_set ho hex hd hf (by unfold scanBound at hsz; omega) ?_
  exact ⟨.int ((es.size : Nat) : Int), H, I.tok _, ⟨_, rfl⟩, q2⟩
section
variable {S : Type} [MSt S] {X : Cx} {K : PySem.W.Frag} {a b : Expr} {ta tb : TE} {da db : DEt S} {dq : DQt S} {p p2 q pos : Pos}
omit [MSt S] in
def dLenSet (dq : DQt S) : DEt S := fun ε n P => dq ε n fun _ ds n1 => ∃ ns, inD ds = some ns ∧ ns.length ≤ 4000 ∧ ∀ L : List Int, L.Nodup → (∀ k, k ∈ L ↔ k ∈ ns) → P (.int (L.length : Nat)) n1
theorem de_lenSet {W : World} (hc : X.calm = true) (hg : Gl X "len") (hm : X.mg "len" = none) (hg2 : Gl X "set") (hm2 : X.mg "set" = none) (h : DQ K X a ta dq) (na : starEach [a] X.env = (false, eval a X.env) :: starEach [] X.env := by rfl)
    (nb : starEach [.Call (.Name "set" p2) [a] [] q] X.env = (false, eval (.Call (.Name "set" p2) [a] [] q) X.env) :: starEach [] X.env := by rfl) (hpl : (backTo pos (starEach [] X.env)).any (·.1) = false := by rfl) (hpl2 : (backTo q (starEach [] X.env)).any (·.1) = false := by rfl) (hK : X.K = K := by rfl) (hW : X.w = W := by rfl) :
    DE K X (.Call (.Name "len" p) [.Call (.Name "set" p2) [a] [] q] [] pos) (tCB (rLenSet W) (tCons (tCB (rSetI K W) (tCons ta tNil)) tNil)) (dLenSet dq) := by
  subst hK
  subst hW
  exact ⟨pe_callB cr_lenSet hg hm boot_len (pa_cons (pe_callTy (cr_setI hc) hg2 hm2 boot_set (pa_cons h.pe pa_nil na) (by decide) (by decide) na hpl2) pa_nil nb) (by decide) (by decide) nb hpl, fun bo G0 H0 σ H G ε n P Q R hp k =>
      h.se bo G0 H0 σ H G ε n _ _ R hp fun l vs G1 H1 kk ds n1 g1 b1 hbo sq hd h1 => by
        obtain ⟨ns, e1, hn, h1⟩ := h1
        have ev := in_map hd e1
        subst ev
        refine ⟨l, ns, rfl, sq.lt g1.gh, by omega, fun a c ha hcl => ?_⟩
        refine ⟨a, _, c, rfl, upd_same, fun L hL1 hL2 => ?_⟩
        have g2 : Grow none G1 H1 G1 (upd H1 a (SetO X.w a (fun j => decide (j ∈ ns)) c)) := Grow.out g1.gh ha
        exact k _ G1 _ _ n1 (g1.trans b1 (g2.any (bo := bo))) (b1.grow g2) (.int _) (h1 L hL1 fun k => by rw [hL2 k]; simp)⟩
/-! ### x in xs, by data -/
omit [MSt S] in
def dInD (neg : Bool) (da db : DEt S) : DEt S := fun ε n P => da ε n fun d n1 => db ε n1 fun y n2 => ∃ ds, y = .list ds ∧ SeqAt.shaped d = true ∧ SeqAt.shaped (.list ds) = true ∧ P (.bool (if neg then !(ds.any fun z => PyData.eqv z d) else ds.any fun z => PyData.eqv z d)) n2
theorem de_inD (hu1 : X.A.units + 65 < cLine) (ha : DE K X a ta da) (hb : DE K X b tb db) (hm : behindInMarks .In b = false := by rfl) (hK : X.K = K := by rfl) : DE K X (.Compare a [.In] [b] pos) (tOp (rInD K) ta tb) (dInD false da db) := by
  subst hK
  exact ⟨pe_cmpR (op_inD hu1) ha.pe hb.pe hm, fun bo G0 H0 σ H G ε n P Q R hp k =>
    ha.se bo G0 H0 σ H G ε n _ _ R hp fun x G1 H1 dx n1 g1 b1 p1 h1 => hb.se bo G0 H0 σ H1 G1 ε n1 _ _ (R.grow g1 b1) h1 fun y G2 H2 dy n2 g2 b2 p2 h2 => by
      obtain ⟨ds, rfl, s1, s2, h2⟩ := h2
      exact ⟨dx, ds, (dp_mono (g2.gg.trans g2.gh) p1).l2, (dp_mono g2.gh p2).l2, s1, s2, k _ G2 H2 _ n2 (g1.trans b1 g2) b2 (.bl _) h2⟩⟩
end
end DL

set_option Elab.async false
set_option linter.all false
set_option autoImplicit false
set_option maxRecDepth 100000
namespace DL
open PySem PySem.Spec PyProof.Rows L2 HT PySem.W
/-! ### sorted(xs), xs a list of tuples of ints, none of them empty -/
def tupD (t : List Int) : PyData := .tuple (t.map PyData.int)
theorem depth_tup (t : List Int) : (tupD t).depth ≤ 1 := by
  show PyData.depthAll (t.map .int) + 1 ≤ 1
  rw [depth_ints]
  exact Nat.le_refl _
theorem dataLe_tups {β : Type} (x : β → List Int) : dataLe false (fun b => tupD (x b)) = fun p q => decide (x p ≤ x q) := by
  funext p q
  show (!dataLt (.tuple ((x q).map .int)) (.tuple ((x p).map .int))) = _
  rw [dataLt_tuple]
  show (!rowLt ((x q).map .int) ((x p).map .int)) = _
  rw [dataLt_ints]
  by_cases h : x q < x p
  · have h' : ¬ x p ≤ x q := fun r => List.not_lt.mpr r h
    simp [h, h']
  · have h' : x p ≤ x q := List.not_lt.mp h
    simp [h, h']
def rSortedTs (K : PySem.W.Frag) : List V → Hp → VK → Prop := fun vs H Q => ∃ (a : Addr) (bs : List (V × List Int)), vs = [V.ref a] ∧ SqL K H a (bs.map (·.1)) ∧ (∀ b ∈ bs, L2.Dp K H b.1 (tupD b.2)) ∧ (∀ b ∈ bs, b.2 ≠ []) ∧
  ∀ (cs : List (V × List Int)) (p : Addr), cs.Perm bs → cs.Pairwise (fun x y => x.2 ≤ y.2) → H p = none → Q (.ref p) (upd H p (.lst (cs.map (·.1))))
theorem each_of_vals {R : Value → V × List Int → Prop} : ∀ {bs : List (V × List Int)} {us : List Value}, Vals (bs.map (·.1)) us → (∀ b ∈ bs, ∀ u, RelV b.1 u → R u b) → EachIs R us bs
  | [], _, .nil, _ => .nil
  | b :: bs, _, .cons r t, h => .cons (h b List.mem_cons_self _ r) (each_of_vals t fun x hx => h x (List.mem_cons_of_mem _ hx))
theorem vals_of_each : ∀ {bs : List (V × List Int)} {us : List Value}, EachIs (fun u b => RelV b.1 u) us bs → Vals (bs.map (·.1)) us
  | [], _, .nil => .nil
  | _ :: _, _, .cons r t => .cons r (vals_of_each t)
theorem list_le_total (x y : List Int) : x ≤ y ∨ y ≤ x := List.le_total x y
theorem cr_sortedTs {X : Cx} (hu : X.A.units + 64 < cLine) : CallR X (.builtin "sorted") (rSortedTs X.K) := by
  intro pins s σ H vs us Q I r h
  obtain ⟨a, bs, rfl, hs, hd, hne, q⟩ := h
  obtain ⟨its, rv, hl, hz⟩ := I.list hs
  rw [Vals.ref1 r]
  have e := each_of_vals (R := fun u b => RelV b.1 u) rv fun b _ u ru => ru
  have er := each_of_vals (R := fun u b => ∃ as, Reads s.heap u (tupD b.2) as) rv fun b hb u ru => L2.Dp.reads I (tupD b.2) b.1 u (hd b hb) ru
  have hal : AllAlike (bs.map fun b => tupD b.2) := AllAlike.of fun b b' => by
    show alikeAll (b.2.map .int) (b'.2.map .int) = true
    exact alike_ints _ _
  have hk : Sortable (bs.map fun b => tupD b.2) := .inl fun d hd => by
    obtain ⟨b, hb, rfl⟩ := List.mem_map.mp hd
    have := hne b hb
    obtain ⟨v, t⟩ := b
    cases t with
    | nil => exact absurd rfl this
    | cons x t => exact ⟨_, _, rfl⟩
  have hlen : bs.length ≤ sizeLine := by
    have := rv.length
    rw [List.length_map] at this hz
    exact hz
  refine sorted_data (vs := its) hl.isList e er hal hk hlen (fun b _ => by have := depth_tup b.2; omega) fun out ho eo => ?_
  obtain ⟨c, hc⟩ := sortedAll_at s.heap its out.toArray
  rw [dataLe_tups (fun b : V × List Int => b.2)] at eo
  have hp : (bs.mergeSort fun p q => decide (p.2 ≤ q.2)).Perm bs := List.mergeSort_perm _ _
  have hpw : (bs.mergeSort fun p q => decide (p.2 ≤ q.2)).Pairwise fun x y => x.2 ≤ y.2 := by
    refine (List.pairwise_mergeSort (le := fun (p q : V × List Int) => decide (p.2 ≤ q.2)) (fun a b c h1 h2 => ?_) (fun a b => ?_) bs).imp fun {x y} z => of_decide_eq_true z
    · rw [decide_eq_true_eq] at h1 h2 ⊢
      exact List.le_trans h1 h2
    · rcases list_le_total a.2 b.2 with z | z
      · simp [z]
      · simp [z]
  have hfr : H (s.heap.objs.size + 1) = none := I.hok.fresh (Nat.le_succ _)
  refine ⟨.ref (s.heap.objs.size + 1), upd H (s.heap.objs.size + 1) (.lst ((bs.mergeSort fun p q => decide (p.2 ≤ q.2)).map (·.1))), I.laid (t' := s.toks) (fun _ _ => sortedAll_old) (Nat.le_succ _) ⟨?_, out, c, vals_of_each eo, hc⟩, rfl, q _ _ hp hpw hfr⟩
  rw [List.length_map, hp.length_eq]
  exact hlen
section
variable {S : Type} [MSt S] {X : Cx} {K : PySem.W.Frag} {e : Expr} {te : TE} {dq : DQt S} {df : DFt S} {p pos : Pos}
omit [MSt S] in
def dSortT (dq : DQt S) : DFt S := fun ε n P => dq ε n fun k ds n1 => k = false ∧ ∃ ts : List (List Int), ds = ts.map tupD ∧ (∀ t ∈ ts, t ≠ []) ∧ ∀ us : List (List Int), us.Perm ts → us.Pairwise (· ≤ ·) → P (us.map tupD) n1
theorem dpa_zip {G : Hp} : ∀ {vs : List V} {ts : List (List Int)}, DpAll K G vs (ts.map tupD) → (vs.zip ts).map (·.1) = vs ∧ (vs.zip ts).map (·.2) = ts ∧ ∀ b ∈ vs.zip ts, Dp K G b.1 (tupD b.2)
  | [], [], .nil => ⟨rfl, rfl, fun b hb => (by cases hb)⟩
  | v :: vs, t :: ts, .cons h r => by
    obtain ⟨h1, h2, h3⟩ := dpa_zip r
    refine ⟨?_, ?_, fun b hb => ?_⟩
    · show v :: (vs.zip ts).map (·.1) = _
      rw [h1]
    · show t :: (vs.zip ts).map (·.2) = _
      rw [h2]
    · rcases List.mem_cons.mp hb with rfl | hb
      · exact h
      · exact h3 b hb
theorem dpa_bs {G : Hp} : ∀ {bs : List (V × List Int)}, (∀ b ∈ bs, Dp K G b.1 (tupD b.2)) → DpAll K G (bs.map (·.1)) ((bs.map (·.2)).map tupD)
  | [], _ => .nil
  | b :: bs, h => .cons (h b List.mem_cons_self) (dpa_bs fun x hx => h x (List.mem_cons_of_mem _ hx))
theorem df_sortedT (hu : X.A.units + 64 < cLine) (hg : Gl X "sorted") (hm : X.mg "sorted" = none) (h : DQ K X e te dq) (he : starEach (e :: []) X.env = (false, eval e X.env) :: starEach [] X.env := by rfl) (hpl : (backTo pos (starEach [] X.env)).any (·.1) = false := by rfl) (hK : X.K = K := by rfl) :
    DF K X (.Call (.Name "sorted" p) [e] [] pos) (tCB (rSortedTs K) (tCons te tNil)) (dSortT dq) := by
  subst hK
  exact ⟨pe_callB (cr_sortedTs hu) hg hm boot_sorted (pa_cons h.pe pa_nil he) (by decide) (by decide) he hpl, fun bo G0 H0 σ H G ε n P Q R hp k =>
      h.se bo G0 H0 σ H G ε n _ _ R hp fun a vs G1 H1 kk ds n1 g1 b1 _ sq ha h1 => by
        obtain ⟨rfl, ts, rfl, hne, h1⟩ := h1
        obtain ⟨z1, z2, z3⟩ := dpa_zip ha
        refine ⟨a, vs.zip ts, rfl, .inl (.inl (by rw [z1]; exact sq)), fun b hb => (dp_mono g1.gh (z3 b hb)).l2, fun b hb => hne b.2 (by rw [← z2]; exact List.mem_map.mpr ⟨b, hb, rfl⟩), fun cs l hcp hcw hl => ?_⟩
        refine k l (cs.map (·.1)) G1 _ ((cs.map (·.2)).map tupD) n1 (g1.trans b1 (Grow.out g1.gh hl)) (b1.grow (Grow.out (G := G1) g1.gh hl)) (g1.back b1 hl) (g1.gh.free hl) upd_same (dpa_bs fun b hb => z3 b (hcp.mem_iff.mp hb)) (h1 _ ?_ ?_)
        · have := hcp.map (·.2)
          rwa [z2] at this
        · exact List.pairwise_map.mpr hcw⟩
/-! ### xs.extend([..]) -/
omit [MSt S] in
def dExt (i : Nat) (df : DFt S) : DSt S := fun D ε n => ∃ ds, ε[i]? = some (.ow ds) ∧ df ε n fun es n1 => ds.length + es.length ≤ 100000 ∧ D.nx (ε.set i (.ow (ds ++ es))) n1
theorem ds_extend' (i : Nat) {x : Str} {p1 apos cpos pos2 : Pos} (h : DF K X e te df) (hN : X.N[i]? = some x := by rfl) (hv : Vis X.env.scope x := by first | exact Or.inl rfl | exact Or.inr (Or.inl rfl) | exact Or.inr (Or.inr rfl)) (hd : (x == ("__debug__" : Str)) = false := by decide) (hcd : (x == ("__classdict__" : Str)) = false := by decide)
    (hbase : attributeBase (.Name x p1) "extend" X.env (eval (.Name x p1) X.env) = eval (.Name x p1) X.env := by rfl)
    (hfew : ((backTo cpos (starEach (e :: []) X.env)).all (fun x => !x.1) && (backToKw cpos (keywordEach [] X.env)).all (fun x => x.1.isSome) && decide ((e :: []).length + ([] : List Keyword).length + (if ([] : List Keyword).isEmpty then 0 else 1) < 30)) = true := by rfl)
    (hline : (apos.endLine == cpos.line) = true := by rfl) (hs : starEach (e :: []) X.env = (false, eval e X.env) :: starEach [] X.env := by rfl) (hplain : (backTo cpos (starEach [] X.env)).any (·.1) = false := by rfl)
    (hsw : swapsWith (.Call (.Attribute (.Name x p1) "extend" apos) [e] [] cpos) none pos2.line X.env = pure false := by rfl) (hK : X.K = K := by rfl) :
    DS K X (.Expr (.Call (.Attribute (.Name x p1) "extend" apos) [e] [] cpos) pos2) (tDrop (tBM K "list" rExtend (tVar i) (tCons te tNil))) (dExt i df) := by
  subst hK
  exact ⟨ps_expr (pe_bm PySem.F.plainAttrs_list PySem.F.slot_list_extend PySem.F.type_list_extend mt_extend (pe_var hN hv hd hcd) (pa_cons h.pe pa_nil hs) hbase hfew hline hs hplain) hsw, fun bo G0 H0 σ H G ε n D DD r l q => by
    obtain ⟨ds, hi, q⟩ := q
    obtain ⟨a, vs, e1, e2, e3, e4, e5, e6⟩ := r.ow i ds hi
    refine ⟨.ref a, e1, .inl ⟨rfl, vs, .inl (.inl e2)⟩, h.se bo G0 H0 σ H G ε n _ _ r q fun b us G1 H1 es n1 g1 b1 hn hg hH hd1 h1 => ?_⟩
    obtain ⟨hl, h1⟩ := h1
    have r1 := r.grow g1 b1
    have hsz : vs.length + us.length ≤ sizeLine := by
      rw [dpa_len e6, dpa_len hd1, sizeLine_eq]
      omega
    exact ⟨a, b, vs, us, rfl, rfl, g1.kp a _ e4 e2, hH, hsz, l.nx _ _ G1 _ n1 (r1.put hi e1 (dpa_cat (dpa_mono g1.gg e6) hd1)) h1⟩⟩
end
end DL

set_option Elab.async false
set_option linter.all false
set_option autoImplicit false
set_option maxRecDepth 100000
namespace DL
open PySem PySem.Spec PyProof.Rows L2 HT
theorem lc2_ind {S : Type} {dg dg1 : DGt} {dt dt1 : DTt S} {di1 : DIt S} {de : DEt S} {vs1 : List Nat} {ε : En} {P : List PyData → S → Prop} (I : Nat → List PyData → S → Prop) : ∀ (items acc : List PyData) (n : S) (i : Nat), I i acc n →
    (∀ (j : Nat) (x : PyData) (acc : List PyData) (n : S), items[j]? = some x → I (i + j) acc n → ∀ Y : List PyData → S → Prop, (∀ acc' n', I (i + j + 1) acc' n' → Y acc' n') →
      dg x ε fun ε' => dt ε' n fun b n1 => if b = true then di1 ε' n1 fun items1 n2 => acc.length + items1.length ≤ 50000 ∧ lcRun dg1 dt1 de (dwipe ε' vs1) Y items1 acc n2 else Y acc n1) →
    (∀ acc n, I (i + items.length) acc n → P acc n) → lc2Run dg dt di1 dg1 dt1 de vs1 ε P items acc n
  | [], acc, n, i, h0, _, he => he acc n h0
  | x :: r, acc, n, i, h0, hs, he => by
    have h1 := hs 0 x acc n rfl h0 (fun acc' n' => lc2Run dg dt di1 dg1 dt1 de vs1 ε P r acc' n') fun acc' n' hI => by
      refine lc2_ind I r acc' n' (i + 1) hI (fun j y acc n hj hI Y hY => ?_) fun acc n hI => ?_
      · have := hs (j + 1) y acc n (by simpa using hj) (by rw [show i + (j + 1) = i + 1 + j by omega]; exact hI) Y fun acc' n' h => hY acc' n' (by rw [show i + 1 + j + 1 = i + (j + 1) + 1 by omega]; exact h)
        exact this
      · exact he acc n (by rw [List.length_cons, show i + (r.length + 1) = i + 1 + r.length by omega]; exact hI)
    exact h1
end DL

set_option Elab.async false
set_option linter.all false
set_option autoImplicit false
set_option maxRecDepth 100000
namespace DL
open PySem PySem.Spec PyProof.Rows L2 HT
section
variable {S : Type} [MOw S] {X : Cx} {K : PySem.W.Frag} {e a b : Expr} {te ta tb tk tv : TE} {de da dk dv : DEt S} {dn : DNt S} {p pos : Pos}
theorem dat_of {G H : Hp} : ∀ {vs : List V} {ds : List PyData}, DpAll K G vs ds → OwsR K G H vs (ds.map .dat) []
  | _, _, .nil => .nil
  | _, _, .cons h t => .cons (.dat h) (dat_of t) (fun _ z => nomatch z)
/-! ### {k: v}, k a whole number, v data -/
omit [MOw S] in
def dnDisp1 (dk dv : DEt S) : DNt S := fun ε n P => dk ε n fun kd n1 => dv ε n1 fun d n2 => ∃ i, kd = .int i ∧ P (.dki [i] [.dat d]) n2
theorem dn_disp1 (hk : DE K X a tk dk) (hv : DE K X b tv dv) (hK : X.K = K := by rfl) : DN K X (.Dict [some a] [b] pos) (tDisp [(tk, tv)]) (dnDisp1 dk dv) := by
  subst hK
  refine ⟨pe_disp (pps_cons hk.pe hv.pe pps_nil) rfl rfl (by simp) (by simp), fun bo G0 H0 σ H G ε n P Q R hp k => fun p hpn => ?_⟩
  have g0 : Grow bo G H G (upd H p (.dK [])) := Grow.out R.gh hpn
  have b0 : BoxO X.K G (upd H p (.dK [])) bo n := R.bx.grow (Grow.out (G := G) R.gh hpn)
  refine hk.se bo G0 H0 σ _ G ε n _ _ (R.grow g0 b0) hp fun v1 G1 H1 kd n1 g1 b1 p1 h1 => ?_
  refine hv.se bo G0 H0 σ H1 G1 ε n1 _ _ ((R.grow g0 b0).grow g1 b1) h1 fun v2 G2 H2 d n2 g2 b2 p2 h2 => ?_
  obtain ⟨i, rfl, h2⟩ := h2
  have nb : ¬ Has bo p := fun z => R.bx.some_ne z hpn
  have e1 : H1 p = some (.dK []) := g1.kp p _ nb upd_same
  have e2 : H2 p = some (.dK []) := g2.kp p _ nb e1
  have f0 : G p = none := R.gh.free hpn
  have f1 : G1 p = none := g1.fr p (by rw [upd_same]; exact fun z => nomatch z) f0
  have f2 : G2 p = none := g2.fr p (by rw [e1]; exact fun z => nomatch z) f1
  have gg := (g0.trans b0 g1).trans b1 g2
  cases int_of p1
  refine ⟨e2, [(Sum.inl i, v2)], rfl, by show 1 ≤ 15; decide, ?_⟩
  have em : mergeK [] [((Sum.inl i : Key), v2)] = kvI [i] [v2] := rfl
  rw [em]
  refine k (.ref p) G2 _ (.dki [i] [.dat d]) [p] n2 (gg.mutNew hpn f2) ?_ (.dki (vs := [v2]) upd_same rfl (List.pairwise_singleton _ _) (dat_of (.cons p2 .nil)) (fun z => nomatch z)) (fun a ha => ?_) h2
  · exact b2.keep (Same.refl _) fun c hc u q => by
      rw [upd_ne (fun z => by
        subst z
        exact nb hc)]
      exact q
  · rw [List.mem_singleton.mp ha]
    exact ⟨hpn, f2⟩
/-! ### {k: v for .. if ..}, the keys whole numbers, the values data -/
omit [MOw S] in
def dcRun (dg : DGt) (dt : DTt S) (dk dv : DEt S) (ε : En) (P : List Int → List PyData → S → Prop) : List PyData → List Int → List PyData → S → Prop
  | [], ks, es, n => P ks es n
  | x :: r, ks, es, n => dg x ε fun ε' => dt ε' n fun b n1 => if b = true then dk ε' n1 fun y n2 => dv ε' n2 fun z n3 => ∃ i, y = .int i ∧ dcRun dg dt dk dv ε P r (putKI ks i) (putVI ks es i z) n3 else dcRun dg dt dk dv ε P r ks es n1
omit [MOw S] in
def dnDc (di : DIt S) (dg : DGt) (dt : DTt S) (dk dv : DEt S) (vs : List Nat) : DNt S := fun ε n P => di ε n fun items n1 => items.length ≤ 50000 ∧ dcRun dg dt dk dv (dwipe ε vs) (fun ks es n2 => P (.dki ks (es.map .dat)) n2) items [] [] n1
theorem sn_dc {wi : TI} {g : TG} {tt : TT} {di : DIt S} {dg : DGt} {dt : DTt S} {vs ts : List Nat} (hi : SI K wi di) (hg : SG K g dg ts) (ht : STt K tt dt) (hk : SE K tk dk) (he : SE K tv dv) (hts : ∀ i ∈ ts, i ∈ vs) :
    SN K (tDc wi g tt tk tv vs) (dnDc di dg dt dk dv vs) := fun bo G0 H0 σ H G ε n P Q R hp k =>
  hi bo G0 H0 σ H G ε n _ _ R hp fun J G1 H1 items n1 g1 b1 w1 h1 D hD => by
    obtain ⟨hlen, h1⟩ := h1
    have R1 := R.grow g1 b1
    have hGD : G1 D = none := g1.gh.free hD
    have hHD : H D = none := g1.back b1 hD
    have nb : ¬ Has bo D := fun z => (b1.some_ne z) hD
    refine ⟨fun i m H' => ∃ G' n' ks ws es, Grow bo G1 H1 G' H' ∧ BoxO K G' H' bo n' ∧ G' D = none ∧ H' D = some (.dK (kvI ks ws)) ∧ ks.length = ws.length ∧ ks.Nodup ∧ DpAll K G' ws es ∧ ks.length ≤ i ∧ i + m = items.length ∧ dcRun dg dt dk dv (dwipe ε vs) (fun ks es n2 => P (.dki ks (es.map .dat)) n2) (items.drop i) ks es n', ?_, fun i m H' hW => ?_⟩
    · exact ⟨items.length, G1, n1, [], [], [], Grow.out g1.gh hD, b1.grow (Grow.out (G := G1) g1.gh hD), hGD, upd_same, rfl, List.nodup_nil, .nil, Nat.le_refl _, Nat.zero_add _, h1⟩
    · obtain ⟨G', n', ks, ws, es, gg, bb, hG', hH', hkl, hnd, ha, hal, him, hrun⟩ := hW
      have W := w1 i G' H' gg.gg gg.gh
      have R' := (R1.grow gg bb).wipe vs
      by_cases hlt : i < items.length
      · obtain ⟨hgo, hy⟩ := W.1 items[i] (List.getElem?_eq_getElem hlt)
        rw [List.drop_eq_getElem_cons hlt] at hrun
        refine .inr ⟨hgo, fun H2 => ∃ G2 n2 ks ws es, Grow bo G1 H1 G2 H2 ∧ BoxO K G2 H2 bo n2 ∧ G2 D = none ∧ H2 D = some (.dK (kvI ks ws)) ∧ ks.length = ws.length ∧ ks.Nodup ∧ DpAll K G2 ws es ∧ ks.length ≤ i + 1 ∧ dcRun dg dt dk dv (dwipe ε vs) (fun ks es n2 => P (.dki ks (es.map .dat)) n2) (items.drop (i + 1)) ks es n2, fun H2 h2 => ?_, fun x H2 hx => ?_⟩
        · obtain ⟨G2, n2, ks2, ws2, es2, q1, q2, q3, q4, q5, q6, q7, q8, q9⟩ := h2
          exact ⟨m - 1, by omega, G2, n2, ks2, ws2, es2, q1, q2, q3, q4, q5, q6, q7, q8, by omega, q9⟩
        · obtain ⟨G2, g2, hdp⟩ := hy x H2 hx
          have R2 := R'.grow g2.any (bb.grow g2)
          have hD2 : H2 D = some (.dK (kvI ks ws)) := g2.kp D _ (fun z => nomatch z) hH'
          have hGD2 : G2 D = none := g2.fr D (by rw [hH']; exact fun z => nomatch z) hG'
          have gg2 := gg.trans bb (g2.any (bo := bo))
          refine hg bo G0 H0 (wipe σ vs) H2 G2 _ _ x items[i] _ _ R2 hdp hrun fun σ3 ε3 R3 hw hrun3 => ⟨?_, ?_⟩
          · rw [hw vs hts, wipe_all σ vs vs fun _ h => h]
          · refine ht bo G0 H0 σ3 H2 G2 ε3 _ _ _ R3 hrun3 fun b G4 H4 n4 g4 b4 hrun4 => ?_
            have hD4 : H4 D = some (.dK (kvI ks ws)) := g4.kp D _ nb hD2
            have hGD4 : G4 D = none := g4.fr D (by rw [hD2]; exact fun z => nomatch z) hGD2
            have gg4 := gg2.trans (bb.grow g2) g4
            cases b with
            | false => exact ⟨G4, n4, ks, ws, es, gg4, b4, hGD4, hD4, hkl, hnd, dpa_mono (g2.gg.trans g4.gg) ha, Nat.le_succ_of_le hal, hrun4⟩
            | true =>
              refine hk bo G0 H0 σ3 H4 G4 ε3 n4 _ _ (R3.grow g4 b4) hrun4 fun y G5 H5 kd n5 g5 b5 hdy hrun5 => ?_
              have hD5 : H5 D = some (.dK (kvI ks ws)) := g5.kp D _ nb hD4
              have hGD5 : G5 D = none := g5.fr D (by rw [hD4]; exact fun z => nomatch z) hGD4
              refine he bo G0 H0 σ3 H5 G5 ε3 n5 _ _ ((R3.grow g4 b4).grow g5 b5) hrun5 fun z G6 H6 d n6 g6 b6 hdz hrun6 => ?_
              obtain ⟨j, rfl, hrun6⟩ := hrun6
              have hD6 : H6 D = some (.dK (kvI ks ws)) := g6.kp D _ nb hD5
              have hGD6 : G6 D = none := g6.fr D (by rw [hD5]; exact fun z => nomatch z) hGD5
              have hda := dpa_mono (((g2.gg.trans g4.gg).trans g5.gg).trans g6.gg) ha
              cases int_of hdy
              have hle : (putKI ks j).length ≤ ks.length + 1 := by
                unfold putKI
                split
                · omega
                · rw [List.length_append]
                  simp
              refine ⟨kvI ks ws, Sum.inl j, rfl, hD6, szl (by rw [kvI_len hkl]; omega), G6, n6, putKI ks j, putVI ks ws j z, putVI ks es j d, ((gg4.trans b4 g5).trans b5 g6).mutNew hD hGD6, ?_, hGD6, ?_, (putVI_len hkl).symm, putKI_nodup hnd, putVI_dp hdz hda, by omega, hrun6⟩
              · exact b6.keep (Same.refl _) fun c hc u q => by
                  rw [upd_ne (fun z => by
                    subst z
                    exact nb hc)]
                  exact q
              · rw [putK_I ks ws j z hkl hnd, upd_same]
      · refine .inl ⟨W.2 (by omega), ?_⟩
        rw [List.drop_eq_nil_of_le (by omega)] at hrun
        exact k (.ref D) G' H' (.dki ks (es.map .dat)) [D] n' (g1.trans b1 gg) bb (.dki hH' hkl hnd (dat_of ha) (fun z => nomatch z)) (fun a ha => by
          rw [List.mem_singleton.mp ha]
          exact ⟨hHD, hG'⟩) hrun
theorem dn_dc {kx vx tg iter : Expr} {ifs : List Expr} {scope : Scope} {own : List (Str × Nat)} {wi : TI} {g : TG} {tt : TT} {di : DIt S} {dg : DGt} {dt : DTt S} {ts : List Nat} (hc : X.calm = true) (hN : X.N.Nodup) (hi : DI K X tg iter wi di) (ok : BlkOk X.N X.env.scope scope own)
    (hg : ∀ (s : Shared) (H : Hp) (C : Addr) (cl : List (Str × Addr)) (fp : List Addr), DG K (X.blk s H scope (compEnvC scope cl C X.env) fp) tg g dg ts) (ht : ∀ (s : Shared) (H : Hp) (C : Addr) (cl : List (Str × Addr)) (fp : List Addr), DTs K (X.blk s H scope (compEnvC scope cl C X.env) fp) ifs tt dt)
    (hk : ∀ (s : Shared) (H : Hp) (C : Addr) (cl : List (Str × Addr)) (fp : List Addr), DE K (X.blk s H scope (compEnvC scope cl C X.env) fp) kx tk dk)
    (he : ∀ (s : Shared) (H : Hp) (C : Addr) (cl : List (Str × Addr)) (fp : List Addr), DE K (X.blk s H scope (compEnvC scope cl C X.env) fp) vx tv dv) (hts : ∀ i ∈ ts, i ∈ own.map (·.2) := by decide) (hs : ∀ x, foldedSetIterable iter X.env x = pure x := by intro _; rfl) (hK : X.K = K := by rfl) :
    DN K X (.DictComp kx vx [⟨tg, iter, ifs, 0⟩] scope pos) (tDc wi g tt tk tv (own.map (·.2))) (dnDc di dg dt dk dv (own.map (·.2))) := by
  subst hK
  exact ⟨pe_dc hc hN hi.pi ok (fun s H C cl fp => (hg s H C cl fp).pg) (fun s H C cl fp => (ht s H C cl fp).pt) (fun s H C cl fp => (hk s H C cl fp).pe) (fun s H C cl fp => (he s H C cl fp).pe) hs,
     sn_dc hi.si (hg X.s_0 X.H_0 0 [] []).sg (ht X.s_0 X.H_0 0 [] []).st (hk X.s_0 X.H_0 0 [] []).se (he X.s_0 X.H_0 0 [] []).se hts⟩
theorem lookI_get {G : Hp} {ks : List Int} {vs : List V} {ds : List PyData} {i : Int} (h : DpAll K G vs ds) : Dp K G ((lookI ks vs i).getD .non) ((lookI ks ds i).getD .none) := by
  obtain ⟨h1, h2⟩ := lookI_dp (ks := ks) (i := i) h
  cases e : lookI ks ds i with
  | none =>
    rw [h1 e]
    exact .non
  | some d =>
    obtain ⟨v, ev, hv⟩ := h2 d e
    rw [ev]
    exact hv
/-! ### D.get(k), D new -/
omit [MOw S] in
def dGetN (dn : DNt S) (dk : DEt S) : DEt S := fun ε n P => dn ε n fun o n1 => ∃ ks es, o = .dki ks (es.map .dat) ∧ dk ε n1 fun kd n2 => ∃ i, kd = .int i ∧ P ((lookI ks es i).getD .none) n2
theorem de_getN {apos cpos : Pos} (hu : X.A.units + 64 < cLine) (hn : DN K X a ta dn) (hk : DE K X b tk dk) (m : M1 X a "get" apos b cpos) (hK : X.K = K := by rfl) :
    DE K X (.Call (.Attribute a "get" apos) [b] [] cpos) (tDGet1 ta tk) (dGetN dn dk) := by
  subst hK
  refine ⟨pe_dget1 (by omega) hn.pe hk.pe m, fun bo G0 H0 σ H G ε n P Q R hp k => hn.se bo G0 H0 σ H G ε n _ _ R hp fun v G1 H1 o f n1 g1 b1 r1 e1 h1 => ?_⟩
  obtain ⟨ks, es, rfl, h1⟩ := h1
  cases r1 with
  | @dki d _ vs _ f q l1 l2 t nf =>
    obtain ⟨t', hf⟩ := OwsR.undat t
    have nb : ¬ Has bo d := fun z => R.bx.some_ne z (e1 d List.mem_cons_self).1
    refine ⟨d, rfl, .inl ⟨_, .inl q⟩, hk.se bo G0 H0 σ H1 G1 ε n1 _ _ (R.grow g1 b1) h1 fun w G2 H2 kd n2 g2 b2 p2 h2 => ?_⟩
    obtain ⟨i, rfl, h2⟩ := h2
    cases int_of p2
    have hget := DGet.k (k := Sum.inl i) (g2.kp d _ nb q)
    refine ⟨_, hget, k _ G2 H2 _ n2 (g1.trans b1 g2) b2 ?_ h2⟩
    have e := valV_look ks vs i
    unfold kvI at e
    rw [e]
    exact lookI_get (dpa_mono g2.gg t')
end
end DL


set_option Elab.async false
set_option linter.all false
set_option autoImplicit false
set_option maxRecDepth 100000
namespace K25
open PySem PySem.Spec PyProof.Rows L2 DL
def topS (i : Nat) : Stmt := PySem.Challenge.pw_looktrails_k25_trails_that_show_what_mat.main.body.getD i (.Pass ⟨0, 0, 0, 0⟩)
/-! ### data -/
def rowD (r : List Int) : PyData := .tuple (r.map PyData.int)
def hallD (h : List (List Int)) : PyData := .tuple (h.map rowD)
def Ris (m : Int) (r : List Int) : Prop := r.Pairwise (· < ·) ∧ ∀ i ∈ r, 0 ≤ i ∧ i < m
def IsHall (h : List (List Int)) : Prop := h ≠ [] ∧ ∀ r ∈ h, Ris (h.length : Int) r
theorem Ris.mono {m m' : Int} {r : List Int} (h : Ris m r) (hm : m ≤ m') : Ris m' r := ⟨h.1, fun i hi => ⟨(h.2 i hi).1, by have := (h.2 i hi).2; omega⟩⟩
theorem Ris.nil (m : Int) : Ris m [] := ⟨List.Pairwise.nil, fun i hi => by cases hi⟩
theorem Ris.one {m i : Int} (h0 : 0 ≤ i) (h1 : i < m) : Ris m [i] := ⟨List.pairwise_singleton _ _, fun j hj => by
  rw [List.mem_singleton.mp hj]
  exact ⟨h0, h1⟩⟩
theorem Ris.snoc {i : Nat} {r : List Int} (h : Ris (i : Int) r) : Ris ((i + 1 : Nat) : Int) (r ++ [(i : Int)]) := by
  refine ⟨List.pairwise_append.mpr ⟨h.1, List.pairwise_singleton _ _, fun a ha b hb => ?_⟩, fun j hj => ?_⟩
  · rw [List.mem_singleton.mp hb]
    exact (h.2 a ha).2
  · rcases List.mem_append.mp hj with hj | hj
    · have := h.2 j hj
      omega
    · rw [List.mem_singleton.mp hj]
      omega
theorem rgD_nodup (m : Nat) : (rgD m).Nodup := by
  unfold rgD
  refine List.pairwise_map.mpr (List.nodup_range.imp fun {a b} h e => h ?_)
  have e' : (a : Int) = (b : Int) := by
    injection e
  omega
theorem nodup_of_map {os : List Int} (h : (os.map PyData.int).Nodup) : os.Nodup := (List.pairwise_map.mp h).imp fun {a b} h e => h (by rw [e])
theorem lt_of_le {ns : List Int} (h : ns.Pairwise (· ≤ ·)) (hn : ns.Nodup) : ns.Pairwise (· < ·) := List.Pairwise.imp₂ (fun a b h1 h2 => by omega) h hn
theorem flat_rep {α : Type} (x : α) : ∀ k : Nat, (List.replicate k [x]).flatten = List.replicate k x
  | 0 => rfl
  | k + 1 => by
    rw [List.replicate_succ, List.flatten_cons, flat_rep x k]
    rfl
theorem hall_of {h : List (List Int)} {m : Int} (h0 : h ≠ []) (hm : (h.length : Int) = m) (hr : ∀ r ∈ h, Ris m r) : IsHall h := ⟨h0, fun r hr' => by
  rw [hm]
  exact hr r hr'⟩
theorem Ris.range : ∀ n : Nat, Ris (n : Int) ((List.range n).map fun (i : Nat) => (i : Int))
  | 0 => Ris.nil _
  | n + 1 => by
    rw [List.range_succ, List.map_append]
    exact (Ris.range n).snoc
/-- xs[lo:hi] -/
def cutL {α : Type} (xs : List α) (lo hi : Option Int) : List α := (xs.drop (HT.sIx xs.length 0 lo)).take (HT.sIx xs.length xs.length hi - HT.sIx xs.length 0 lo)
theorem cutD_map {α : Type} (f : α → PyData) (xs : List α) (lo hi : Option Int) : DL.cutD (xs.map f) lo hi = (cutL xs lo hi).map f := by
  unfold DL.cutD cutL
  rw [List.length_map, List.map_take, List.map_drop]
theorem cutL_sub {α : Type} (xs : List α) (lo hi : Option Int) : (cutL xs lo hi).Sublist xs := (List.take_sublist _ _).trans (List.drop_sublist _ _)
theorem cutL_len {α : Type} (xs : List α) {b : Int} (hb : 0 ≤ b) : ((cutL xs none (some b)).length : Int) ≤ b := by
  unfold cutL
  rw [HT.sIx_none, List.length_take]
  have e : HT.sIx xs.length xs.length (some b) = min b.toNat xs.length := by
    show (if b < 0 then (b + (xs.length : Int)).toNat else min b.toNat xs.length) = _
    rw [if_neg (by omega)]
  rw [e]
  omega
def con_law_take : Con := fun as n P => ∃ m : Int, as = [.bx, .im (.int m)] ∧ 1 ≤ m ∧ m ≤ 1000000 ∧ n ≤ 1000000000 ∧ ∀ (r : Int) (n' : Nat), 0 ≤ r → r < m → n' ≤ n + 1 → P (.int r) n'
def con_law_one_of : Con := fun as n P => ∃ d k ds, as = [.bx, .im d] ∧ seqD d = some (k, ds) ∧ ds ≠ [] ∧ ds.length ≤ 1000000 ∧ n ≤ 1000000000 ∧ ∀ x ∈ ds, ∀ n' : Nat, n' ≤ n + 1 → P x n'
def con_law_strewn : Con := fun as n P => ∃ d k ds, as = [.bx, .im d] ∧ seqD d = some (k, ds) ∧ ds.length ≤ 1000 ∧ n ≤ 100000000 ∧ ∀ (ds' : List PyData) (n' : Nat), ds'.Perm ds → n' ≤ n + ds.length → P (.list ds') n'
def con_law_ringless : Con := fun as n P => ∃ m : Int, as = [.bx, .im (.int m)] ∧ 1 ≤ m ∧ m ≤ 100 ∧ n ≤ 95000000 ∧ ∀ (h : List (List Int)) (n' : Nat), IsHall h → (h.length : Int) ≤ m → n' ≤ n + 20000 → P (hallD h) n'
def con_law_hall : Con := fun as n P => ∃ m : Int, as = [.bx, .im (.int m)] ∧ 1 ≤ m ∧ m ≤ 100 ∧ n ≤ 90000000 ∧ ∀ (h : List (List Int)) (n' : Nat), IsHall h → (h.length : Int) ≤ m → n' ≤ n + 30000 → P (hallD h) n'
def con_law_beat : Con := fun as n P => ∃ m : Int, as = [.bx, .im (.int m)] ∧ 1 ≤ m ∧ m ≤ 100 ∧ n ≤ 100000000 ∧ ∀ (r : List Int) (n' : Nat), Ris m r → n' ≤ n + 200 → P (rowD r) n'
def con_law_cut : Con := fun as n P => ∃ (hs : List (List Int)) (c : Int), as = [.im (.list (hs.map rowD)), .im (.int c)] ∧ hs.length ≤ 1000 ∧ ∀ hs' : List (List Int), hs'.Sublist hs → P (.list (hs'.map rowD)) n
def con_law_history : Con := fun as n P => ∃ m b : Int, as = [.bx, .im (.int m), .im (.int b)] ∧ 1 ≤ m ∧ m ≤ 100 ∧ 0 ≤ b ∧ b ≤ 100 ∧ n ≤ 90000000 ∧ ∀ (hs : List (List Int)) (n' : Nat), (∀ r ∈ hs, Ris m r) → (hs.length : Int) ≤ b → n' ≤ n + 30000 → P (.list (hs.map rowD)) n'
local macro_rules | `(tactic| walk_at "dd") => `(tactic| simp only [dSeq, dIfS, dTst, dOp, dBx0, dBx1, dBx2, dC, fI_int, dAsg, dVar, dgName, dSb0, dSb2, dRet, dNext, en0, agSl, List.map_cons, List.map_nil, List.length_cons, List.length_nil, List.replicate, fPlus_ii, fPlus_ll, fPlus_tt, fPlus_ss, fTimes_ii, fTimes_li, List.cons_append, List.nil_append, List.getElem?_cons_zero, List.getElem?_cons_succ, Option.some.injEq, Sl.im.injEq, Sl.ow.injEq, exists_eq_left', exists_eq_left, true_and, and_true, PyData.bool.injEq, List.set_cons_zero, List.set_cons_succ, dCall, dCons, dNil, dConsB, dCbQ, fLen, dSq, seqD_list, seqD_tuple, dIx, fIx_int, Prod.mk.injEq, dAsgO, dLst, agD, Option.map_some, dFor, dItS, dIns, dOwn, dFrz, dFz, dPar, dTup, dgTup, dgsCons, dgsNil, dRng, dIf, dRgT, dRgL, dPass, dApp, dSet, dEnum, dNotT, dAndT, dOrT, dNotV, dAndV, dOrV, dIsi, fAll, fAny, fSum, fTuple, dFq, dLc, dwipe, dYes, dListQ, dSortQ, dSortSet, dRepF, dCut, dNoP, dPt, dNeg, dTru, fIsN, fEq_int, fNe_int, decide_eq_true_eq, and_assoc, exists_and_left, Bool.false_eq_true, if_false, if_true, Bool.not_eq_true', decide_eq_false_iff_not])
section
variable {P : Program} {w : World} {K : PySem.W.Frag} {mg : Str → Option Value} {base : Heap}
abbrev s_law_take : Stmt := topS 18
theorem sc_law_take : FnScope ["_law_box", "_law_many", "_law_once", "_law_pair", "_law_found"] ["_law_box", "_law_many"] (defScope s_law_take) := ⟨rfl, rfl, rfl, by decide +kernel, rfl, by decide +kernel, by decide +kernel⟩
-- calls: []; slots: [(0, '_law_box'), (1, '_law_many'), (2, '_law_once'), (3, '_law_pair'), (4, '_law_found')]
theorem ok_law_take {f : Addr} {fd : FuncData} (F : Fun K "_law_take" "_law_take" s_law_take f fd) (B : Bt mg) : FnOk P w K mg base CX0 1 f fd ["_law_box", "_law_many"] (spD K 2 con_law_take) := by
  refine def_ok F sc_law_take rfl ?_
  intro cdv A outer s H E hr
  refine ⟨_, _, (dss_cons (ds_if (dt_gt (de_bx0 0) de_int) (dss_cons (ds_set 4 sc_law_take.nd rfl (.inl rfl) (de_mod (de_bx0 0) (de_var 1)))
      (dss_cons (ds_sb0 0 (de_fdiv (de_bx0 0) (de_var 1)) (hp := ps_asg (de_fdiv (de_bx0 0) (de_var 1)).pe (pg_sub (pv 0) pe_int set_list)))
      (dss_one (ds_ret (de_var 4))))) dss_nil)
      (dss_cons (ds_sb2 0 (de_plus (de_bx2 0) de_int) (hp := ps_asg (de_plus (de_bx2 0) de_int).pe (pg_sub (pv 0) pe_int set_list)))
      (dss_cons (ds_set 2 sc_law_take.nd rfl (.inl rfl) (de_mod (de_pow (de_plus (de_bx1 0) (de_times de_int (de_bx2 0))) de_int) de_int))
      (dss_cons (ds_set 3 sc_law_take.nd rfl (.inl rfl) (de_mod (de_times (de_plus (de_plus (de_var 2) (de_bx2 0)) (de_fdiv (de_bx1 0) de_int)) (de_plus (de_plus (de_mod (de_var 2) de_int) de_int) (de_bx2 0))) de_int))
      (dss_one (ds_ret (de_mod (de_fdiv (de_mod (de_plus (de_times (de_var 3) de_int) (de_var 2)) de_int) de_int) (de_var 1)))))))), fun as n P hl h => ?_⟩
  obtain ⟨m, rfl, h1, h2, h3, h⟩ := h
  walk_at "dd"
  intro v hv
  by_cases hz : 0 < v
  · rw [if_pos hz]
    intro v hv
    exact ⟨by omega, fun v1 hv1 => ⟨⟨by omega, by omega⟩, Int.ediv_nonneg hv1 (by omega), h _ n (Int.emod_nonneg _ (by omega)) (Int.emod_lt_of_pos _ (by omega)) (by omega)⟩⟩
  · rw [if_neg hz]
    intro v hv hvn
    refine ⟨by omega, n + 1, by omega, ?_⟩
    intro v hv0 hv1 v1 hw0 hw1
    refine ⟨.inl ⟨by decide, by decide⟩, ⟨by decide, by decide, by omega⟩, by decide, ?_⟩
    generalize (v + 39373 * v1) ^ Int.toNat 5 = q0
    have hq0 : 0 ≤ q0 % 2147483647 := Int.emod_nonneg _ (by decide)
    have hq1 : q0 % 2147483647 < 2147483647 := Int.emod_lt_of_pos _ (by decide)
    generalize q0 % 2147483647 = q at hq0 hq1
    intro v2 hv20 hv21 v3 hv30 hv31
    refine ⟨⟨by decide, by decide⟩, by decide, fun v4 hv40 hv41 => ⟨.inl ⟨by omega, by omega⟩, by decide, ?_⟩⟩
    generalize (q + v2 + v3 / 1000003) * (q % 40009 + 7 + v4) = r0
    exact ⟨.inr ⟨by decide, by decide⟩, by decide, ⟨by decide, by decide⟩, by omega, h _ (n + 1) (Int.emod_nonneg _ (by omega)) (Int.emod_lt_of_pos _ (by omega)) (by omega)⟩
abbrev s_law_one_of : Stmt := topS 20
theorem sc_law_one_of : FnScope ["_law_box", "_law_pool"] ["_law_box", "_law_pool"] (defScope s_law_one_of) := ⟨rfl, rfl, rfl, by decide +kernel, rfl, by decide +kernel, by decide +kernel⟩
-- calls: ['_law_take']; slots: [(0, '_law_box'), (1, '_law_pool')]
theorem ok_law_one_of {f : Addr} {fd : FuncData} (F : Fun K "_law_one_of" "_law_one_of" s_law_one_of f fd) (B : Bt mg) (F_law_take : Kf P w K mg base "_law_take" 1 2 con_law_take) : FnOk P w K mg base CX0 2 f fd ["_law_box", "_law_pool"] (spD K 2 con_law_one_of) := by
  refine def_ok F sc_law_one_of rfl ?_
  intro cdv A outer s H E hr
  refine ⟨_, _, (dss_one (ds_ret (de_ix (de_dq (de_var 1)) (de_call F_law_take (hr.mono (by decide)) (by rfl) (da_box 0 (da_cons (de_len (by rfl) B.len (de_dq (de_var 1))) da_nil))) (fun _ _ => rfl)))), fun as n P hl h => ?_⟩
  obtain ⟨d, k, ds, rfl, hd, hne, hlen, hn, h⟩ := h
  have hpos : 0 < ds.length := List.length_pos_iff.mpr hne
  walk_at "dd"
  refine ⟨k, ds, hd, k, ds, hd, (ds.length : Int), rfl, by omega, by omega, hn, fun r n' h0 h1 hn' => ?_⟩
  have hr : r.toNat < ds.length := by omega
  refine ⟨ds[r.toNat], ?_, h _ (List.getElem_mem hr) n' hn'⟩
  unfold atI ixN
  rw [if_pos h0, if_pos h1]
  exact List.getElem?_eq_getElem hr
abbrev s_law_strewn : Stmt := topS 21
theorem sc_law_strewn : FnScope ["_law_box", "_law_pool", "_law_found", "_law_one"] ["_law_box", "_law_pool"] (defScope s_law_strewn) := ⟨rfl, rfl, rfl, by decide +kernel, rfl, by decide +kernel, by decide +kernel⟩
-- calls: ['_law_take']; slots: [(0, '_law_box'), (1, '_law_pool'), (2, '_law_found'), (3, '_law_one')]
theorem ok_law_strewn {f : Addr} {fd : FuncData} (F : Fun K "_law_strewn" "_law_strewn" s_law_strewn f fd) (B : Bt mg) (F_law_take : Kf P w K mg base "_law_take" 1 2 con_law_take) : FnOk P w K mg base CX0 2 f fd ["_law_box", "_law_pool"] (spD K 2 con_law_strewn) := by
  refine def_ok F sc_law_strewn rfl ?_
  intro cdv A outer s H E hr
  refine ⟨_, _, (dss_cons (ds_setO 2 sc_law_strewn.nd rfl (.inl rfl) (df_lst da_nil))
      (dss_cons (ds_for PassesOwn.never rfl (di_seq (de_var 1)) (dg_name 3 sc_law_strewn.nd rfl (.inl rfl)) (dss_one (ds_insert' 2 (de_call F_law_take (hr.mono (by decide)) (by rfl) (da_box 0 (da_cons (de_plus (de_len (by rfl) B.len (dq_own 2)) de_int) da_nil))) (de_var 3))))
      (dss_frz 2 (dss_one (ds_ret (de_var 2)))))), fun as n P hl h => ?_⟩
  obtain ⟨d, k, ds, rfl, hd, hlen, hn, h⟩ := h
  walk_at "dd"
  refine ⟨by decide, ?_⟩
  rw [hd]
  refine for_ind (fun i ε m => ∃ es x, ε = [Sl.bx, Sl.im d, Sl.ow es, x] ∧ es.Perm (ds.take i) ∧ m ≤ n + i) ds _ n 0 ⟨[], .no, rfl, .nil, by omega⟩ (fun j y ε m hj hI Y hY => ?_) (fun ε m hI => ?_)
  · obtain ⟨es, x, rfl, hp, hm⟩ := hI
    have hlt : j < ds.length := (List.getElem?_eq_some_iff.mp hj).1
    have hl : es.length = j := by
      rw [hp.length_eq, List.length_take]
      omega
    walk_at "dd"
    refine ⟨(es.length : Int) + 1, rfl, by omega, by omega, by omega, fun r n' h0 h1 hn' => ⟨by omega, h0, by omega, hY _ n' ⟨insD es r y, .im y, rfl, ?_, by omega⟩⟩⟩
    have e2 : ds.take (j + 1) = ds.take j ++ [y] := by
      rw [List.take_add_one, hj]
      rfl
    rw [Nat.zero_add] at hp ⊢
    rw [e2]
    have p1 : (es.take r.toNat ++ [y] ++ es.drop r.toNat).Perm (y :: (es.take r.toNat ++ es.drop r.toNat)) := by
      rw [List.append_assoc]
      exact List.perm_middle
    rw [List.take_append_drop] at p1
    refine p1.trans ((hp.cons y).trans ?_)
    exact (List.perm_append_singleton y _).symm
  · obtain ⟨es, x, rfl, hp, hm⟩ := hI
    walk_at "dd"
    rw [Nat.zero_add, List.take_length] at hp
    exact h es m hp (by omega)
abbrev s_law_ringless : Stmt := topS 24
theorem sc_law_ringless : FnScope ["_law_box", "_law_most", "_law_many", "_law_found", "_law_order", "_law_odds", "_law_spot", "_law_person", "_law_one"] ["_law_box", "_law_most"] (defScope s_law_ringless) := ⟨rfl, rfl, rfl, by decide +kernel, rfl, by decide +kernel, by decide +kernel⟩
-- calls: ['_law_strewn', '_law_take']; slots: [(0, '_law_box'), (1, '_law_most'), (2, '_law_many'), (3, '_law_found'), (4, '_law_order'), (5, '_law_odds'), (6, '_law_spot'), (7, '_law_person'), (8, '_law_one')]
theorem ok_law_ringless {f : Addr} {fd : FuncData} (F : Fun K "_law_ringless" "_law_ringless" s_law_ringless f fd) (B : Bt mg) (F_law_strewn : Kf P w K mg base "_law_strewn" 2 2 con_law_strewn) (F_law_take : Kf P w K mg base "_law_take" 1 2 con_law_take) : FnOk P w K mg base CX0 3 f fd ["_law_box", "_law_most"] (spD K 2 con_law_ringless) := by
  refine def_ok F sc_law_ringless rfl ?_
  intro cdv A outer s H E hr
  refine ⟨_, _, (dss_cons (ds_set 2 sc_law_ringless.nd rfl (.inl rfl) (de_plus de_int (de_call F_law_take (hr.mono (by decide)) (by rfl) (da_box 0 (da_cons (de_var 1) da_nil)))))
      (dss_cons (ds_asg (de_tup (da_cons (de_call F_law_strewn (hr.mono (by decide)) (by rfl) (da_box 0 (da_cons (df_de (df_listRg rfl (by rfl) B.list (by rfl) B.range (de_var 2))) da_nil))) (da_cons (de_plus de_int (de_call F_law_take (hr.mono (by decide)) (by rfl) (da_box 0 (da_cons de_int da_nil)))) da_nil))) (dg_tup (n := 2) rfl (dgs_cons (dg_name 4 sc_law_ringless.nd rfl (.inl rfl)) (dgs_cons (dg_name 5 sc_law_ringless.nd rfl (.inr rfl)) dgs_nil))))
      (dss_cons (ds_setO 3 sc_law_ringless.nd rfl (.inl rfl) (df_rep (df_dq (df_lst (da_cons (de_tup da_nil) da_nil))) (de_var 2)))
      (dss_cons (ds_for PassesOwn.never rfl (di_enum' (by rfl) B.enumerate (de_var 4)) (dg_tup (n := 2) rfl (dgs_cons (dg_name 6 sc_law_ringless.nd rfl (.inl rfl)) (dgs_cons (dg_name 7 sc_law_ringless.nd rfl (.inl rfl)) dgs_nil))) (dss_one (ds_setItem' 3 (de_tuple (by rfl) B.tuple (df_dq (df_sorted (by rfl) B.sorted (df_dq (df_lc (own := [("_law_one", 8)]) rfl sc_law_ringless.nd (di_seq (de_slice (de_dq (de_var 4)) do_none (do_some (de_var 6)))) (blkOk_by (by kernel_rfl)) (fun _ _ _ _ _ => (dg_name 8 sc_law_ringless.nd rfl (.inl rfl))) (fun _ _ _ _ _ => (dts_one (dt_eq hr.units (de_call F_law_take (hr.mono (by decide)) (by rfl) (da_box 0 (da_cons (de_var 5) da_nil))) de_int))) (fun _ _ _ _ _ => (de_var 8))))))) (de_var 7))))
      (dss_frz 3 (dss_one (ds_ret (de_tuple (by rfl) B.tuple (de_dq (de_var 3)))))))))), fun as n P hl h => ?_⟩
  obtain ⟨m, rfl, h1, h2, h3, h⟩ := h
  walk_at "dd"
  refine ⟨m, rfl, h1, by omega, by omega, fun q n1 hq0 hq1 hn1 => ?_⟩
  walk_at "dd"
  refine ⟨by omega, by omega, _, false, rgD (1 + q).toNat, rfl, rfl, by rw [rgD_length]; omega, by omega, fun ds' n2 hp hn2 => ?_⟩
  rw [rgD_length] at hn2
  have hpl : ds'.length = (1 + q).toNat := by rw [hp.length_eq, rgD_length]
  refine ⟨3, rfl, by decide, by decide, by omega, fun o n3 ho0 ho1 hn3 => ?_⟩
  walk_at "dd"
  refine ⟨by decide, by decide, by decide, by omega, by omega, by omega, ?_⟩
  have hmem : ∀ d ∈ ds', ∃ i : Int, d = .int i ∧ 0 ≤ i ∧ i < 1 + q := fun d hd => by
    have h4 := hp.subset hd
    obtain ⟨i, hi, rfl⟩ := List.mem_map.mp h4
    exact ⟨i, rfl, by omega, by have := List.mem_range.mp hi; omega⟩
  have hint : ∃ os : List Int, ds' = os.map PyData.int ∧ ∀ i ∈ os, 0 ≤ i ∧ i < 1 + q := by
    clear hp hpl hn2
    induction ds' with
    | nil => exact ⟨[], rfl, fun i hi => absurd hi List.not_mem_nil⟩
    | cons d r ih =>
      obtain ⟨i, rfl, h5, h6⟩ := hmem d List.mem_cons_self
      obtain ⟨os, rfl, h7⟩ := ih fun d hd => hmem d (List.mem_cons_of_mem _ hd)
      refine ⟨i :: os, rfl, fun k hk => ?_⟩
      rcases List.mem_cons.mp hk with rfl | hk
      · exact ⟨h5, h6⟩
      · exact h7 k hk
  obtain ⟨os, rfl, hos⟩ := hint
  rw [List.length_map] at hpl
  have hnd : os.Nodup := nodup_of_map (hp.nodup_iff.mpr (rgD_nodup _))
  refine for_ind (fun i ε m' => ∃ (hs : List (List Int)) (x6 x7 x8 : Sl), ε = [Sl.bx, Sl.im (.int m), Sl.im (.int (1 + q)), Sl.ow (hs.map rowD), Sl.im (.list (os.map PyData.int)), Sl.im (.int (1 + o)), x6, x7, x8] ∧ (hs.length : Int) = 1 + q ∧ (∀ r ∈ hs, Ris (1 + q) r) ∧ m' ≤ n3 + 100 * i) _ _ n3 0
    ⟨List.replicate (1 + q).toNat [], .no, .no, .no, ?_, by rw [List.length_replicate]; omega, fun r hr => by rw [(List.mem_replicate.mp hr).2]; exact Ris.nil _, by omega⟩ (fun j y ε m' hj hI Y hY => ?_) (fun ε m' hI => ?_)
  · rw [flat_rep, List.map_replicate]
    rfl
  · obtain ⟨hs, x6, x7, x8, rfl, hl, hr, hm'⟩ := hI
    rw [List.getElem?_map, List.getElem?_zipIdx, List.getElem?_map] at hj
    cases hp2 : os[j]? with
    | none =>
      rw [hp2] at hj
      cases hj
    | some p =>
      rw [hp2] at hj
      cases hj
      have hjl : j < os.length := (List.getElem?_eq_some_iff.mp hp2).1
      have hpb := hos p (List.mem_of_getElem? hp2)
      walk_at "dd"
      rw [cutD_map]
      have hcs := cutL_sub os none (some ((0 + j : Nat) : Int))
      have hcl := hcs.length_le
      refine ⟨by rw [List.length_map]; omega, ?_⟩
      refine lc_ind (fun i acc n' => ∃ r : List Int, acc = r.map PyData.int ∧ r.Sublist ((cutL os none (some ((0 + j : Nat) : Int))).take i) ∧ n' ≤ m' + i) _ [] m' 0 ⟨[], rfl, List.nil_sublist _, by omega⟩ (fun i x acc n4 hi hI Y2 hY2 => ?_) (fun acc n4 hI => ?_)
      · obtain ⟨r, rfl, hrs, hn4⟩ := hI
        rw [List.getElem?_map] at hi
        cases hx : (cutL os none (some ((0 + j : Nat) : Int)))[i]? with
        | none =>
          rw [hx] at hi
          cases hi
        | some z =>
          rw [hx] at hi
          cases hi
          have e2 : (cutL os none (some ((0 + j : Nat) : Int))).take (0 + i + 1) = (cutL os none (some ((0 + j : Nat) : Int))).take i ++ [z] := by
            rw [Nat.zero_add, List.take_add_one, hx]
            rfl
          have hil : i < (cutL os none (some ((0 + j : Nat) : Int))).length := (List.getElem?_eq_some_iff.mp hx).1
          rw [Nat.zero_add] at hrs
          walk_at "dd"
          refine ⟨1 + o, rfl, by omega, by omega, by omega, fun q2 n5 hq20 hq21 hn5 => ?_⟩
          walk_at "dd"
          by_cases c3 : q2 = 0
          · rw [if_pos c3]
            refine hY2 _ n5 ⟨r ++ [z], by rw [List.map_append]; rfl, ?_, by omega⟩
            rw [e2]
            exact hrs.append (List.Sublist.refl _)
          · rw [if_neg c3]
            refine hY2 _ n5 ⟨r, rfl, ?_, by omega⟩
            rw [e2]
            exact hrs.trans (List.sublist_append_left _ _)
      · obtain ⟨r, rfl, hrs, hn4⟩ := hI
        have hro : r.Sublist os := (hrs.trans (List.take_sublist _ _)).trans hcs
        rw [List.length_map] at hn4
        refine ⟨r, inD_map r, fun ns' hpm hle => ⟨hpb.1, by rw [List.length_map]; omega, hY _ n4 ⟨hs.set p.toNat ns', .im (.int ((0 + j : Nat) : Int)), .im (.int p), x8, ?_, by rw [List.length_set]; exact hl, fun z hz => ?_, by omega⟩⟩⟩
        · rw [List.map_set]
          rfl
        · rcases List.mem_or_eq_of_mem_set hz with hz | rfl
          · exact hr z hz
          · exact ⟨lt_of_le hle (hpm.nodup_iff.mpr (hnd.sublist hro)), fun i hi => hos i (hro.subset (hpm.subset hi))⟩
  · obtain ⟨hs, x6, x7, x8, rfl, hl, hr, hm'⟩ := hI
    walk_at "dd"
    rw [List.length_map, List.length_zipIdx, List.length_map, hpl] at hm'
    exact h hs m' (hall_of (fun z => by subst z; simp at hl; omega) hl hr) (by omega) (by omega)
abbrev s_law_hall : Stmt := topS 25
theorem sc_law_hall : FnScope ["_law_box", "_law_most", "_law_way", "_law_found", "_law_person", "_law_many", "_law_odds", "_law_some", "_law_one", "_law_row"] ["_law_box", "_law_most"] (defScope s_law_hall) := ⟨rfl, rfl, rfl, by decide +kernel, rfl, by decide +kernel, by decide +kernel⟩
-- calls: ['_law_ringless', '_law_take']; slots: [(0, '_law_box'), (1, '_law_most'), (2, '_law_way'), (3, '_law_found'), (4, '_law_person'), (5, '_law_many'), (6, '_law_odds'), (7, '_law_some'), (8, '_law_one'), (9, '_law_row')]
theorem ok_law_hall {f : Addr} {fd : FuncData} (F : Fun K "_law_hall" "_law_hall" s_law_hall f fd) (B : Bt mg) (F_law_ringless : Kf P w K mg base "_law_ringless" 3 2 con_law_ringless) (F_law_take : Kf P w K mg base "_law_take" 1 2 con_law_take) : FnOk P w K mg base CX0 4 f fd ["_law_box", "_law_most"] (spD K 2 con_law_hall) := by
  refine def_ok F sc_law_hall rfl ?_
  intro cdv A outer s H E hr
  refine ⟨_, _, (dss_cons (ds_set 2 sc_law_hall.nd rfl (.inl rfl) (de_call F_law_take (hr.mono (by decide)) (by rfl) (da_box 0 (da_cons de_int da_nil))))
      (dss_cons (ds_if (dt_eq hr.units (de_var 2) de_int) (dss_one (ds_ret (de_call F_law_ringless (hr.mono (by decide)) (by rfl) (da_box 0 (da_cons (de_var 1) da_nil))))) dss_nil)
      (dss_cons (ds_asg (de_tup (da_cons (de_plus de_int (de_call F_law_take (hr.mono (by decide)) (by rfl) (da_box 0 (da_cons (de_var 1) da_nil)))) (da_cons (de_plus de_int (de_call F_law_take (hr.mono (by decide)) (by rfl) (da_box 0 (da_cons de_int da_nil)))) da_nil))) (dg_tup (n := 2) rfl (dgs_cons (dg_name 5 sc_law_hall.nd rfl (.inr rfl)) (dgs_cons (dg_name 6 sc_law_hall.nd rfl (.inr rfl)) dgs_nil))))
      (dss_cons (ds_if (dt_eq hr.units (de_var 2) de_int) (dss_one (ds_ret (de_tuple (by rfl) B.tuple (df_dq (df_lc (own := [("_law_person", 4)]) rfl sc_law_hall.nd (di_range (by rfl) B.range (de_var 5)) (blkOk_by (by kernel_rfl)) (fun _ _ _ _ _ => (dg_name 4 sc_law_hall.nd rfl (.inl rfl))) (fun _ _ _ _ _ => dts_nil) (fun _ _ _ _ _ => (de_tup (da_cons (de_mod (de_plus (de_var 4) de_int) (de_var 5)) da_nil)))))))) dss_nil)
      (dss_cons (ds_if (dt_eq hr.units (de_var 2) de_int) (dss_cons (ds_setLc 7 (own := [("_law_person", 4)]) rfl sc_law_hall.nd rfl rfl (sw_true rfl rfl rfl (by decide +kernel)) (di_range (by rfl) B.range (de_var 5)) (blkOk_by (by kernel_rfl)) (fun _ _ _ _ _ => (dg_name 4 sc_law_hall.nd rfl (.inl rfl))) (fun _ _ _ _ _ => dts_nil) (fun _ _ _ _ _ => (df_de (df_lst (da_cons (de_var 4) (da_cons (de_mod (de_plus (de_var 4) de_int) (de_var 5)) (da_cons (de_mod (de_plus (de_var 4) de_int) (de_var 5)) da_nil)))))))
      (dss_one (ds_ret (de_tuple (by rfl) B.tuple (df_dq (df_lc (own := [("_law_row", 9)]) rfl sc_law_hall.nd (di_seq (de_var 7)) (blkOk_by (by kernel_rfl)) (fun _ _ _ _ _ => (dg_name 9 sc_law_hall.nd rfl (.inl rfl))) (fun _ _ _ _ _ => dts_nil) (fun _ _ _ _ _ => (de_tuple (by rfl) B.tuple (df_dq (df_sortedSet rfl (by rfl) B.sorted (by rfl) B.set (de_dq (de_var 9)))))))))))) dss_nil)
      (dss_cons (ds_setO 3 sc_law_hall.nd rfl (.inl rfl) (df_lst da_nil))
      (dss_cons (ds_for PassesOwn.never rfl (di_range (by rfl) B.range (de_var 5)) (dg_name 4 sc_law_hall.nd rfl (.inl rfl)) (dss_cons (ds_setLc 7 (own := [("_law_one", 8)]) rfl sc_law_hall.nd rfl rfl (sw_true rfl rfl rfl (by decide +kernel)) (di_range (by rfl) B.range (de_var 5)) (blkOk_by (by kernel_rfl)) (fun _ _ _ _ _ => (dg_name 8 sc_law_hall.nd rfl (.inl rfl))) (fun _ _ _ _ _ => (dts_one (dt_eq hr.units (de_call F_law_take (hr.mono (by decide)) (by rfl) (da_box 0 (da_cons (de_var 6) da_nil))) de_int))) (fun _ _ _ _ _ => (de_var 8)))
      (dss_one (ds_append' 3 (de_if (dw_dt (dw_and (dt_eq hr.units (de_var 2) de_int) (dw_and1 (dt_eq hr.units (de_var 6) de_int)))) (de_tupRg rfl (by rfl) B.tuple (by rfl) B.range (de_var 5)) (de_tuple (by rfl) B.tuple (de_dq (de_var 7))))))))
      (dss_frz 3 (dss_one (ds_ret (de_tuple (by rfl) B.tuple (de_dq (de_var 3))))))))))))), fun as n P hl h => ?_⟩
  obtain ⟨m, rfl, h1, h2, h3, h⟩ := h
  walk_at "dd"
  refine ⟨6, rfl, by decide, by decide, by omega, fun w n1 hw0 hw1 hn1 => ?_⟩
  walk_at "dd"
  by_cases c0 : w = 0
  · rw [if_pos c0]
    exact ⟨m, rfl, h1, h2, by omega, fun hh n2 i1 i2 i3 => h hh n2 i1 i2 (by omega)⟩
  rw [if_neg c0]
  refine ⟨m, rfl, h1, by omega, by omega, fun q n2 hq0 hq1 hn2 => ?_⟩
  walk_at "dd"
  refine ⟨3, rfl, by decide, by decide, by omega, fun o n3 ho0 ho1 hn3 => ?_⟩
  walk_at "dd"
  rw [rgD_length]
  refine ⟨by decide, ?_⟩
  by_cases c1 : w = 1
  · rw [if_pos c1]
    refine ⟨by omega, by omega, by omega, ?_⟩
    refine lc_ind (fun i acc n' => ∃ hs : List (List Int), acc = hs.map rowD ∧ hs.length = i ∧ (∀ r ∈ hs, Ris (1 + q) r) ∧ n' = n3) _ [] n3 0 ⟨[], rfl, rfl, (fun r hr => absurd hr List.not_mem_nil), rfl⟩ (fun j x acc n4 hj hI Y hY => ?_) (fun acc n4 hI => ?_)
    · obtain ⟨hs, rfl, hl, hr, rfl⟩ := hI
      obtain ⟨hjm, rfl⟩ := rgD_get hj
      walk_at "dd"
      refine ⟨by omega, by decide, hY _ n4 ⟨hs ++ [[((j : Int) + 1) % (1 + q)]], by rw [List.map_append]; rfl, by rw [List.length_append, hl]; rfl, fun z hz => ?_, rfl⟩⟩
      rcases List.mem_append.mp hz with hz | hz
      · exact hr z hz
      · rw [List.mem_singleton.mp hz]
        exact Ris.one (Int.emod_nonneg _ (by omega)) (Int.emod_lt_of_pos _ (by omega))
    · obtain ⟨hs, rfl, hl, hr, rfl⟩ := hI
      rw [rgD_length] at hl
      exact h hs n4 (hall_of (fun z => by subst z; simp at hl; omega) (by omega) hr) (by omega) (by omega)
  rw [if_neg c1]
  by_cases c2 : w = 2
  · rw [if_pos c2]
    refine ⟨by omega, by omega, by omega, ?_⟩
    refine lc_ind (fun i acc n' => ∃ hs : List (List Int), acc = hs.map (fun r => PyData.list (r.map PyData.int)) ∧ hs.length = i ∧ (∀ r ∈ hs, r.length = 3 ∧ ∀ k ∈ r, 0 ≤ k ∧ k < 1 + q) ∧ n' = n3) _ [] n3 0 ⟨[], rfl, rfl, (fun r hr => absurd hr List.not_mem_nil), rfl⟩ (fun j x acc n4 hj hI Y hY => ?_) (fun acc n4 hI => ?_)
    · obtain ⟨hs, rfl, hl, hr, rfl⟩ := hI
      obtain ⟨hjm, rfl⟩ := rgD_get hj
      walk_at "dd"
      refine ⟨by omega, by omega, by decide, hY _ n4 ⟨hs ++ [[(j : Int), ((j : Int) + 1) % (1 + q), ((j : Int) + 2) % (1 + q)]], by rw [List.map_append]; rfl, by rw [List.length_append, hl]; rfl, fun z hz => ?_, rfl⟩⟩
      rcases List.mem_append.mp hz with hz | hz
      · exact hr z hz
      · rw [List.mem_singleton.mp hz]
        refine ⟨rfl, fun k hk => ?_⟩
        have p1 : 0 ≤ ((j : Int) + 1) % (1 + q) ∧ ((j : Int) + 1) % (1 + q) < 1 + q := ⟨Int.emod_nonneg _ (by omega), Int.emod_lt_of_pos _ (by omega)⟩
        have p2 : 0 ≤ ((j : Int) + 2) % (1 + q) ∧ ((j : Int) + 2) % (1 + q) < 1 + q := ⟨Int.emod_nonneg _ (by omega), Int.emod_lt_of_pos _ (by omega)⟩
        rcases List.mem_cons.mp hk with rfl | hk
        · omega
        · rcases List.mem_cons.mp hk with rfl | hk
          · exact p1
          · rw [List.mem_singleton.mp hk]
            exact p2
    · obtain ⟨hs, rfl, hl, hr, rfl⟩ := hI
      rw [rgD_length] at hl
      refine ⟨by rw [List.length_map]; omega, ?_⟩
      refine lc_ind (fun i acc n' => ∃ gs : List (List Int), acc = gs.map rowD ∧ gs.length = i ∧ (∀ r ∈ gs, Ris (1 + q) r) ∧ n' = n4) _ [] n4 0 ⟨[], rfl, rfl, (fun r hr => absurd hr List.not_mem_nil), rfl⟩ (fun j x acc n5 hj hI Y hY => ?_) (fun acc n5 hI => ?_)
      · obtain ⟨gs, rfl, hl2, hr2, rfl⟩ := hI
        rw [List.getElem?_map] at hj
        cases hx : hs[j]? with
        | none =>
          rw [hx] at hj
          cases hj
        | some z =>
          rw [hx] at hj
          cases hj
          have hz := hr z (List.mem_of_getElem? hx)
          walk_at "dd"
          refine ⟨z, inD_map z, by omega, fun ns' hp1 hp2 => hY _ n5 ⟨gs ++ [ns'], by rw [List.map_append]; rfl, by rw [List.length_append, hl2]; rfl, fun y hy => ?_, rfl⟩⟩
          rcases List.mem_append.mp hy with hy | hy
          · exact hr2 y hy
          · rw [List.mem_singleton.mp hy]
            exact ⟨hp1, fun k hk => hz.2 k ((hp2 k).mp hk)⟩
      · obtain ⟨gs, rfl, hl2, hr2, rfl⟩ := hI
        rw [List.length_map, hl] at hl2
        exact h gs n5 (hall_of (fun z => by subst z; simp at hl2; omega) (by omega) hr2) (by omega) (by omega)
  rw [if_neg c2]
  refine ⟨by decide, by omega, by omega, ?_⟩
  refine for_ind (fun i ε m' => ∃ (hs : List (List Int)) (x4 x7 x8 x9 : Sl), ε = [Sl.bx, Sl.im (.int m), Sl.im (.int w), Sl.ow (hs.map rowD), x4, Sl.im (.int (1 + q)), Sl.im (.int (2 + o)), x7, x8, x9] ∧ hs.length = i ∧ (∀ r ∈ hs, Ris (1 + q) r) ∧ m' ≤ n3 + 200 * i) _ _ n3 0
    ⟨[], .no, .no, .no, .no, rfl, rfl, (fun r hr => absurd hr List.not_mem_nil), by omega⟩ (fun j y ε m' hj hI Y hY => ?_) (fun ε m' hI => ?_)
  · obtain ⟨hs, x4, x7, x8, x9, rfl, hl, hr, hm'⟩ := hI
    obtain ⟨hjm, rfl⟩ := rgD_get hj
    walk_at "dd"
    rw [rgD_length]
    refine ⟨by omega, by omega, by omega, ?_⟩
    refine lc_ind (fun i acc n' => ∃ r : List Int, acc = r.map PyData.int ∧ Ris (i : Int) r ∧ n' ≤ m' + i) (rgD (1 + q).toNat) [] m' 0 ⟨[], rfl, Ris.nil _, by omega⟩ (fun i x acc n4 hi hI Y2 hY2 => ?_) (fun acc n4 hI => ?_)
    · obtain ⟨r, rfl, hr2, hn4⟩ := hI
      obtain ⟨him, rfl⟩ := rgD_get hi
      rw [Nat.zero_add] at hr2
      walk_at "dd"
      refine ⟨2 + o, rfl, by omega, by omega, by omega, fun q2 n5 hq20 hq21 hn5 => ?_⟩
      walk_at "dd"
      by_cases c3 : q2 = 0
      · rw [if_pos c3]
        refine hY2 _ n5 ⟨r ++ [(i : Int)], by rw [List.map_append]; rfl, ?_, by omega⟩
        rw [Nat.zero_add]
        exact hr2.snoc
      · rw [if_neg c3]
        exact hY2 _ n5 ⟨r, rfl, hr2.mono (by omega), by omega⟩
    · obtain ⟨r, rfl, hr2, hn4⟩ := hI
      rw [rgD_length] at hr2 hn4
      have hr3 : Ris (1 + q) r := hr2.mono (by omega)
      have step : ∀ r' : List Int, Ris (1 + q) r' → Y [Sl.bx, Sl.im (.int m), Sl.im (.int w), Sl.ow (hs.map rowD ++ [rowD r']), Sl.im (.int (j : Int)), Sl.im (.int (1 + q)), Sl.im (.int (2 + o)), Sl.im (.list (r.map PyData.int)), x8, x9] n4 := fun r' hr' =>
        hY _ n4 ⟨hs ++ [r'], .im (.int (j : Int)), .im (.list (r.map PyData.int)), x8, x9, by rw [List.map_append]; rfl, by rw [List.length_append, hl]; rfl, fun z hz => by
          rcases List.mem_append.mp hz with hz | hz
          · exact hr z hz
          · rw [List.mem_singleton.mp hz]
            exact hr', by omega⟩
      have hsl : (hs.map rowD).length < 100000 := by
        rw [List.length_map]
        omega
      have hfull : Ris (1 + q) ((List.range (1 + q).toNat).map fun (i : Nat) => (i : Int)) := (Ris.range (1 + q).toNat).mono (by omega)
      by_cases c3 : w = 3
      · rw [if_pos c3]
        by_cases c4 : 2 + o = 2
        · rw [if_pos c4, rgD_ints]
          exact ⟨by omega, by omega, hsl, step _ hfull⟩
        · rw [if_neg c4]
          exact ⟨hsl, step r hr3⟩
      · rw [if_neg c3]
        exact ⟨hsl, step r hr3⟩
  · obtain ⟨hs, x4, x7, x8, x9, rfl, hl, hr, hm'⟩ := hI
    rw [rgD_length] at hl hm'
    walk_at "dd"
    exact h hs m' (hall_of (fun z => by subst z; simp at hl; omega) (by omega) hr) (by omega) (by omega)
abbrev s_law_beat : Stmt := topS 26
theorem sc_law_beat : FnScope ["_law_box", "_law_many", "_law_way", "_law_person"] ["_law_box", "_law_many"] (defScope s_law_beat) := ⟨rfl, rfl, rfl, by decide +kernel, rfl, by decide +kernel, by decide +kernel⟩
-- calls: ['_law_take']; slots: [(0, '_law_box'), (1, '_law_many'), (2, '_law_way'), (3, '_law_person')]
theorem ok_law_beat {f : Addr} {fd : FuncData} (F : Fun K "_law_beat" "_law_beat" s_law_beat f fd) (B : Bt mg) (F_law_take : Kf P w K mg base "_law_take" 1 2 con_law_take) : FnOk P w K mg base CX0 2 f fd ["_law_box", "_law_many"] (spD K 2 con_law_beat) := by
  refine def_ok F sc_law_beat rfl ?_
  intro cdv A outer s H E hr
  refine ⟨_, _, (dss_cons (ds_set 2 sc_law_beat.nd rfl (.inl rfl) (de_call F_law_take (hr.mono (by decide)) (by rfl) (da_box 0 (da_cons de_int da_nil))))
      (dss_cons (ds_if (dt_lt (de_var 2) de_int) (dss_one (ds_ret (de_tup (da_cons (de_call F_law_take (hr.mono (by decide)) (by rfl) (da_box 0 (da_cons (de_var 1) da_nil))) da_nil)))) dss_nil)
      (dss_cons (ds_if (dt_eq hr.units (de_var 2) de_int) (dss_one (ds_ret (de_if (dt_eq hr.units (de_call F_law_take (hr.mono (by decide)) (by rfl) (da_box 0 (da_cons de_int da_nil))) de_int) (de_tupRg rfl (by rfl) B.tuple (by rfl) B.range (de_var 1)) (de_tup da_nil)))) dss_nil)
      (dss_one (ds_ret (de_tuple (by rfl) B.tuple (df_dq (df_lc (own := [("_law_person", 3)]) rfl sc_law_beat.nd (di_range (by rfl) B.range (de_var 1)) (blkOk_by (by kernel_rfl)) (fun _ _ _ _ _ => (dg_name 3 sc_law_beat.nd rfl (.inl rfl))) (fun _ _ _ _ _ => (dts_one (dt_eq hr.units (de_call F_law_take (hr.mono (by decide)) (by rfl) (da_box 0 (da_cons de_int da_nil))) de_int))) (fun _ _ _ _ _ => (de_var 3)))))))))), fun as n P hl h => ?_⟩
  obtain ⟨m, rfl, h1, h2, h3, h⟩ := h
  walk_at "dd"
  refine ⟨8, rfl, by decide, by decide, by omega, fun w n1 hw0 hw1 hn1 => ?_⟩
  walk_at "dd"
  by_cases c1 : w < 5
  · rw [if_pos c1]
    exact ⟨m, rfl, h1, by omega, by omega, fun r n2 hr0 hr1 hn2 => ⟨by decide, h [r] n2 (Ris.one hr0 hr1) (by omega)⟩⟩
  · rw [if_neg c1]
    by_cases c2 : w = 7
    · rw [if_pos c2]
      refine ⟨2, rfl, by decide, by decide, by omega, fun r n2 hr0 hr1 hn2 => ?_⟩
      walk_at "dd"
      by_cases c3 : r = 0
      · rw [if_pos c3, rgD_ints]
        refine ⟨by omega, by omega, h _ n2 ?_ (by omega)⟩
        have := Ris.range m.toNat
        rwa [Int.toNat_of_nonneg (by omega)] at this
      · rw [if_neg c3]
        exact ⟨by decide, h [] n2 (Ris.nil m) (by omega)⟩
    · rw [if_neg c2, rgD_length]
      refine ⟨by omega, by omega, by omega, ?_⟩
      refine lc_ind (fun i acc n' => ∃ r : List Int, acc = r.map PyData.int ∧ Ris (i : Int) r ∧ n' ≤ n1 + i) (rgD m.toNat) [] n1 0 ⟨[], rfl, Ris.nil _, by omega⟩ (fun j x acc n2 hj hI Y hY => ?_) (fun acc n2 hI => ?_)
      · obtain ⟨r, rfl, hr, hn2⟩ := hI
        obtain ⟨hjm, rfl⟩ := rgD_get hj
        rw [Nat.zero_add] at hr hn2
        walk_at "dd"
        refine ⟨2, rfl, by decide, by decide, by omega, fun q n3 hq0 hq1 hn3 => ?_⟩
        walk_at "dd"
        by_cases c3 : q = 0
        · rw [if_pos c3]
          refine hY _ n3 ⟨r ++ [(j : Int)], by rw [List.map_append]; rfl, ?_, by omega⟩
          rw [Nat.zero_add]
          exact hr.snoc
        · rw [if_neg c3]
          exact hY _ n3 ⟨r, rfl, hr.mono (by omega), by omega⟩
      · obtain ⟨r, rfl, hr, hn2⟩ := hI
        rw [rgD_length] at hr hn2
        exact h r n2 (hr.mono (by omega)) (by omega)
abbrev s_law_cut : Stmt := topS 27
theorem sc_law_cut : FnScope ["_law_history_here", "_law_calls", "_law_found", "_law_persons"] ["_law_history_here", "_law_calls"] (defScope s_law_cut) := ⟨rfl, rfl, rfl, by decide +kernel, rfl, by decide +kernel, by decide +kernel⟩
-- calls: []; slots: [(0, '_law_history_here'), (1, '_law_calls'), (2, '_law_found'), (3, '_law_persons')]
theorem ok_law_cut {f : Addr} {fd : FuncData} (F : Fun K "_law_cut" "_law_cut" s_law_cut f fd) (B : Bt mg) : FnOk P w K mg base CX0 1 f fd ["_law_history_here", "_law_calls"] (spD K 2 con_law_cut) := by
  refine def_ok F sc_law_cut rfl ?_
  intro cdv A outer s H E hr
  refine ⟨_, _, (dss_cons (ds_setO 2 sc_law_cut.nd rfl (.inl rfl) (df_lst da_nil))
      (dss_cons (ds_for PassesOwn.never rfl (di_seq (de_var 0)) (dg_name 3 sc_law_cut.nd rfl (.inl rfl)) (dss_cons (ds_set 1 sc_law_cut.nd rfl (.inl rfl) (de_sub (de_var 1) (de_len (by rfl) B.len (de_dq (de_var 3)))))
      (dss_one (ds_if (dt_ge (de_var 1) de_int) (dss_one (ds_append' 2 (de_var 3))) dss_nil))))
      (dss_frz 2 (dss_one (ds_ret (de_var 2)))))), fun as n P hl h => ?_⟩
  obtain ⟨hs, c, rfl, hlen, h⟩ := h
  walk_at "dd"
  refine ⟨by decide, ?_⟩
  refine for_ind (fun i ε m => ∃ (hs' : List (List Int)) (c' : Int) (x : Sl), ε = [Sl.im (.list (hs.map rowD)), Sl.im (.int c'), Sl.ow (hs'.map rowD), x] ∧ hs'.Sublist (hs.take i) ∧ m = n) _ _ n 0 ⟨[], c, .no, rfl, .slnil, rfl⟩ (fun j y ε m hj hI Y hY => ?_) (fun ε m hI => ?_)
  · obtain ⟨hs', c', x, rfl, hp, rfl⟩ := hI
    rw [List.getElem?_map] at hj
    cases hr : hs[j]? with
    | none =>
      rw [hr] at hj
      cases hj
    | some r =>
      rw [hr] at hj
      cases hj
      have e2 : hs.take (j + 1) = hs.take j ++ [r] := by
        rw [List.take_add_one, hr]
        rfl
      have hl : hs'.length ≤ 1000 := by
        have := hp.length_le
        rw [List.length_take] at this
        omega
      rw [Nat.zero_add] at hp
      walk_at "dd"
      refine ⟨true, r.map PyData.int, rfl, ?_⟩
      by_cases hc : 0 ≤ c' - ((r.map PyData.int).length : Int)
      · rw [if_pos hc]
        refine ⟨by rw [List.length_map]; omega, hY _ m ⟨hs' ++ [r], c' - ((r.map PyData.int).length : Int), .im (rowD r), ?_, ?_, rfl⟩⟩
        · rw [List.map_append]
          rfl
        · rw [Nat.zero_add, e2]
          exact hp.append (List.Sublist.refl _)
      · rw [if_neg hc]
        refine hY _ m ⟨hs', c' - ((r.map PyData.int).length : Int), .im (rowD r), rfl, ?_, rfl⟩
        rw [Nat.zero_add, e2]
        exact hp.trans (List.sublist_append_left _ _)
  · obtain ⟨hs', c', x, rfl, hp, rfl⟩ := hI
    walk_at "dd"
    rw [Nat.zero_add, List.length_map, List.take_length] at hp
    exact h hs' hp
abbrev s_law_history : Stmt := topS 28
theorem sc_law_history : FnScope ["_law_box", "_law_many", "_law_beats", "_law_found", "_law_at", "_law_turn"] ["_law_box", "_law_many", "_law_beats"] (defScope s_law_history) := ⟨rfl, rfl, rfl, by decide +kernel, rfl, by decide +kernel, by decide +kernel⟩
-- calls: ['_law_beat', '_law_cut', '_law_take']; slots: [(0, '_law_box'), (1, '_law_many'), (2, '_law_beats'), (3, '_law_found'), (4, '_law_at'), (5, '_law_turn')]
theorem ok_law_history {f : Addr} {fd : FuncData} (F : Fun K "_law_history" "_law_history" s_law_history f fd) (B : Bt mg) (F_law_beat : Kf P w K mg base "_law_beat" 2 2 con_law_beat) (F_law_cut : Kf P w K mg base "_law_cut" 1 2 con_law_cut) (F_law_take : Kf P w K mg base "_law_take" 1 2 con_law_take) : FnOk P w K mg base CX0 3 f fd ["_law_box", "_law_many", "_law_beats"] (spD K 3 con_law_history) := by
  refine def_ok F sc_law_history rfl ?_
  intro cdv A outer s H E hr
  refine ⟨_, _, (dss_cons (ds_setLc 3 (own := [("_law_turn", 5)]) rfl sc_law_history.nd rfl rfl (sw_true rfl rfl rfl (by decide +kernel)) (di_range (by rfl) B.range (de_call F_law_take (hr.mono (by decide)) (by rfl) (da_box 0 (da_cons (de_plus (de_var 2) de_int) da_nil)))) (blkOk_by (by kernel_rfl)) (fun _ _ _ _ _ => (dg_name 5 sc_law_history.nd rfl (.inl rfl))) (fun _ _ _ _ _ => dts_nil) (fun _ _ _ _ _ => (de_call F_law_beat (hr.mono (by decide)) (by rfl) (da_box 0 (da_cons (de_var 1) da_nil)))))
      (dss_cons (ds_if (dw_dt (dw_and (dt_ne hr.units (de_var 3) (df_de (df_lst da_nil))) (dw_and1 (dt_eq hr.units (de_call F_law_take (hr.mono (by decide)) (by rfl) (da_box 0 (da_cons de_int da_nil))) de_int)))) (dss_cons (ds_set 4 sc_law_history.nd rfl (.inl rfl) (de_call F_law_take (hr.mono (by decide)) (by rfl) (da_box 0 (da_cons (de_len (by rfl) B.len (de_dq (de_var 3))) da_nil))))
      (dss_one (ds_set 3 sc_law_history.nd rfl (.inl rfl) (de_plus (de_plus (de_slice (de_dq (de_var 3)) do_none (do_some (de_var 4))) (de_slice (de_dq (de_var 3)) (do_some (de_var 4)) (do_some (de_plus (de_var 4) de_int)))) (de_slice (de_dq (de_var 3)) (do_some (de_var 4)) do_none))))) dss_nil)
      (dss_one (ds_ret (de_call F_law_cut (hr.mono (by decide)) (by rfl) (da_cons (de_slice (de_dq (de_var 3)) do_none (do_some (de_var 2))) (da_cons de_int da_nil))))))), fun as n P hl h => ?_⟩
  obtain ⟨m, b, rfl, h1, h2, h3, h4, h5, h⟩ := h
  walk_at "dd"
  refine ⟨b + 1, rfl, by omega, by omega, by omega, fun q n1 hq0 hq1 hn1 => ?_⟩
  walk_at "dd"
  rw [rgD_length]
  refine ⟨by omega, by omega, by omega, ?_⟩
  refine lc_ind (fun i acc n' => ∃ hs : List (List Int), acc = hs.map rowD ∧ hs.length = i ∧ (∀ r ∈ hs, Ris m r) ∧ n' ≤ n1 + 200 * i) (rgD q.toNat) [] n1 0 ⟨[], rfl, rfl, (fun r hr => absurd hr (List.not_mem_nil)), by omega⟩ (fun j x acc n2 hj hI Y hY => ?_) (fun acc n2 hI => ?_)
  · obtain ⟨hs, rfl, hl, hr, hn2⟩ := hI
    obtain ⟨hjm, rfl⟩ := rgD_get hj
    walk_at "dd"
    refine ⟨m, rfl, h1, h2, by omega, fun r n3 hr3 hn3 => ?_⟩
    refine hY _ n3 ⟨hs ++ [r], by rw [List.map_append]; rfl, by rw [List.length_append, hl]; rfl, fun z hz => ?_, by omega⟩
    rcases List.mem_append.mp hz with hz | hz
    · exact hr z hz
    · rw [List.mem_singleton.mp hz]
      exact hr3
  · obtain ⟨hs, rfl, hl, hr, hn2⟩ := hI
    rw [rgD_length] at hl hn2
    have fin : ∀ (xs : List (List Int)) (n' : Nat), (∀ r ∈ xs, Ris m r) → xs.length ≤ 1000 → n' ≤ n + 30000 → con_law_cut [.im (.list (DL.cutD (xs.map rowD) none (some b))), .im (.int 60)] n' P := fun xs n' hx hlx hn' => by
      rw [cutD_map]
      refine ⟨cutL xs none (some b), 60, rfl, Nat.le_trans (cutL_sub xs _ _).length_le hlx, fun hs' hsub => h hs' n' (fun r hr => hx r ((cutL_sub xs _ _).subset (hsub.subset hr))) ?_ hn'⟩
      have h6 := hsub.length_le
      have h7 := cutL_len xs h3
      omega
    refine ⟨by decide, (Shp.list (k := 1) (fun d hd => ?_)).ok (by decide), rfl, ?_⟩
    · obtain ⟨r, hr, rfl⟩ := List.mem_map.mp hd
      exact Shp.tuple fun d hd => by
        obtain ⟨i, _, rfl⟩ := List.mem_map.mp hd
        exact Shp.int i
    · refine ⟨!PyData.eqv (.list (hs.map rowD)) (.list []), rfl, ?_⟩
      by_cases c0 : (!PyData.eqv (.list (hs.map rowD)) (.list [])) = true
      · rw [if_pos c0]
        have hne : hs ≠ [] := fun z => by
          subst z
          rw [eqv_nil] at c0
          cases c0
        have hpos : 0 < hs.length := List.length_pos_iff.mpr hne
        refine ⟨3, rfl, by decide, by decide, by omega, fun q2 n3 hq20 hq21 hn3 => ?_⟩
        walk_at "dd"
        by_cases c1 : q2 = 0
        · rw [if_pos c1, List.length_map]
          refine ⟨(hs.length : Int), rfl, by omega, by omega, by omega, fun at_ n4 ha0 ha1 hn4 => ?_⟩
          walk_at "dd"
          rw [cutD_map, cutD_map, cutD_map, ← List.map_append, ← List.map_append, List.length_map, List.length_map, List.length_map, List.length_map, List.length_append]
          have l1 := (cutL_sub hs none (some at_)).length_le
          have l2 := (cutL_sub hs (some at_) (some (at_ + 3))).length_le
          have l3 := (cutL_sub hs (some at_) none).length_le
          refine ⟨by omega, by omega, fin _ n4 (fun r hr' => ?_) ?_ (by omega)⟩
          · rcases List.mem_append.mp hr' with hr' | hr'
            · rcases List.mem_append.mp hr' with hr' | hr'
              · exact hr r ((cutL_sub hs _ _).subset hr')
              · exact hr r ((cutL_sub hs _ _).subset hr')
            · exact hr r ((cutL_sub hs _ _).subset hr')
          · rw [List.length_append, List.length_append]
            omega
        · rw [if_neg c1]
          exact fin hs n3 hr (by omega) (by omega)
      · rw [if_neg c0]
        exact fin hs n2 hr (by omega) (by omega)
end
end K25

set_option Elab.async false
set_option linter.all false
set_option autoImplicit false
set_option maxRecDepth 100000
namespace K25
open PySem PySem.Spec PyProof.Rows L2 DL
local macro_rules | `(tactic| walk_at "dd") => `(tactic| simp only [dSeq, dIfS, dTst, dOp, dBx0, dBx1, dBx2, dC, fI_int, dAsg, dVar, dgName, dSb0, dSb2, dRet, dNext, en0, agSl, List.map_cons, List.map_nil, List.length_cons, List.length_nil, List.replicate, fPlus_ii, fPlus_ll, fPlus_tt, fPlus_ss, fTimes_ii, fTimes_li, List.cons_append, List.nil_append, List.getElem?_cons_zero, List.getElem?_cons_succ, Option.some.injEq, Sl.im.injEq, Sl.ow.injEq, exists_eq_left', exists_eq_left, true_and, and_true, PyData.bool.injEq, List.set_cons_zero, List.set_cons_succ, dCall, dCons, dNil, dConsB, dCbQ, fLen, dSq, seqD_list, seqD_tuple, dIx, fIx_int, Prod.mk.injEq, dAsgO, dLst, agD, Option.map_some, dFor, dItS, dIns, dOwn, dFrz, dFz, dPar, dTup, dgTup, dgsCons, dgsNil, dRng, dIf, dRgT, dRgL, dPass, dApp, dSet, dEnum, dNotT, dAndT, dOrT, dNotV, dAndV, dOrV, dIsi, fAll, fAny, fSum, fTuple, dFq, dLc, dwipe, dYes, dListQ, dSortQ, dSortSet, dRepF, dCut, dNoP, dPt, dNeg, dTru, fIsN, fEq_int, fNe_int, decide_eq_true_eq, and_assoc, exists_and_left, Bool.false_eq_true, if_false, if_true, Bool.not_eq_true', decide_eq_false_iff_not])
section
variable {P : Program} {w : World} {K : PySem.W.Frag} {mg : Str → Option Value} {base : Heap}
def con_law_same : Nat → Con
  | 0 => fun _ _ _ => False
  | j + 1 => fun as n P => ∃ d, as = [.im d, .im d] ∧ j ≤ 60 ∧ Okd j d ∧ P (.bool true) n
abbrev s_law_same : Stmt := topS 22
theorem sc_law_same : FnScope ["_law_found", "_law_due", "_law_one", "_law_two"] ["_law_found", "_law_due"] (defScope s_law_same) := ⟨rfl, rfl, rfl, by decide +kernel, rfl, by decide +kernel, by decide +kernel⟩
-- calls: ['_law_same']; slots: [(0, '_law_found'), (1, '_law_due'), (2, '_law_one'), (3, '_law_two')]
theorem ok_law_same {f : Addr} {fd : FuncData} {k j : Nat} (F : Fun K "_law_same" "_law_same" s_law_same f fd) (B : Bt mg) (F_law_same : Kf P w K mg base "_law_same" k 2 (con_law_same j)) : FnOk P w K mg base CX0 (k + 1) f fd ["_law_found", "_law_due"] (spD K 2 (con_law_same (j + 1))) := by
  refine def_ok F sc_law_same rfl ?_
  intro cdv A outer s H E hr
  refine ⟨_, _, (dss_cons (ds_if (dt_val (de_isi2 kit_list kit_tuple (by rfl) B.isinstance (by rfl) B.list boot_list (by rfl) B.tuple boot_tuple (de_var 1))) (dss_cons (ds_if (dw_dt (dw_or (dt_ne hr.units (de_isi kit_list (by rfl) B.isinstance (by rfl) B.list boot_list (de_var 0)) (de_isi kit_list (by rfl) B.isinstance (by rfl) B.list boot_list (de_var 1))) (dw_or1 (dt_ne hr.units (de_isi kit_tuple (by rfl) B.isinstance (by rfl) B.tuple boot_tuple (de_var 0)) (de_isi kit_tuple (by rfl) B.isinstance (by rfl) B.tuple boot_tuple (de_var 1)))))) (dss_one (ds_ret de_bl)) dss_nil)
      (dss_one (ds_ret (de_and (de_eq hr.units (de_len (by rfl) B.len (de_dq (de_var 0))) (de_len (by rfl) B.len (de_dq (de_var 1)))) (de_one (de_all rfl (by rfl) B.all (df_dq (df_lc (own := [("_law_one", 2), ("_law_two", 3)]) rfl sc_law_same.nd (di_zip' (by rfl) B.zip (de_var 0) (de_var 1)) (blkOk_by (by kernel_rfl)) (fun _ _ _ _ _ => (dg_tup (n := 2) rfl (dgs_cons (dg_name 2 sc_law_same.nd rfl (.inl rfl)) (dgs_cons (dg_name 3 sc_law_same.nd rfl (.inl rfl)) dgs_nil)))) (fun _ _ _ _ _ => dts_nil) (fun _ _ _ _ _ => (de_call F_law_same hr (by rfl) (da_cons (de_var 2) (da_cons (de_var 3) da_nil)))))))))))) dss_nil)
      (dss_cons (ds_if (dw_dt (dw_or (dt_isN (de_var 1) de_non) (dw_or1 (dt_isN (de_var 0) de_non)))) (dss_one (ds_ret (de_and (de_isN (de_var 1) de_non) (de_one (de_isN (de_var 0) de_non))))) dss_nil)
      (dss_cons (ds_if (dw_dt (dw_or (dt_val (de_isi kit_bool (by rfl) B.isinstance (by rfl) B.bool boot_bool (de_var 1))) (dw_or1 (dt_val (de_isi kit_str (by rfl) B.isinstance (by rfl) B.str boot_str (de_var 1)))))) (dss_one (ds_ret (de_and (de_eq hr.units (de_isi kit_bool (by rfl) B.isinstance (by rfl) B.bool boot_bool (de_var 0)) (de_isi kit_bool (by rfl) B.isinstance (by rfl) B.bool boot_bool (de_var 1))) (de_one (de_eq hr.units (de_var 0) (de_var 1)))))) dss_nil)
      (dss_one (ds_ret (de_and (de_isi kit_int (by rfl) B.isinstance (by rfl) B.int boot_int (de_var 0)) (de_and (de_not (de_isi kit_bool (by rfl) B.isinstance (by rfl) B.bool boot_bool (de_var 0))) (de_one (de_eq hr.units (de_var 0) (de_var 1)))))))))), fun as n P hl h => ?_⟩
  obtain ⟨d, rfl, hj, hs, h⟩ := h
  have hb : ∀ b : Bool, Okd 0 (.bool b) := fun b => Okd.bool b
  walk_at "dd"
  have seq : ∀ (k : Bool) (ds : List PyData), seqD d = some (k, ds) → (∃ i, j = i + 1 ∧ ds.length ≤ 50000 ∧ ∀ x ∈ ds, Okd i x) →
      dZip (dVar 0) (dVar 1) [Sl.im d, Sl.im d, Sl.no, Sl.no] n fun items n1 => items.length ≤ 50000 ∧ lcRun (dgTup 2 (dgsCons (dgName 2) (dgsCons (dgName 3) dgsNil))) dYes (dCall 2 (con_law_same j) (dCons (dVar 2) (dCons (dVar 3) dNil)))
        [Sl.im d, Sl.im d, Sl.no, Sl.no] (fun ds n1 => ∃ bs, blD ds = some bs ∧ P (PyData.bool (bs.all _root_.id)) n1) items [] n1 := fun k ds hd hq => by
    obtain ⟨i, rfl, hl, hx⟩ := hq
    have go : (List.zipWith (fun a b => PyData.tuple [a, b]) ds ds).length ≤ 50000 ∧ lcRun (dgTup 2 (dgsCons (dgName 2) (dgsCons (dgName 3) dgsNil))) dYes (dCall 2 (con_law_same (i + 1)) (dCons (dVar 2) (dCons (dVar 3) dNil)))
        [Sl.im d, Sl.im d, Sl.no, Sl.no] (fun ds n1 => ∃ bs, blD ds = some bs ∧ P (PyData.bool (bs.all _root_.id)) n1) (List.zipWith (fun a b => PyData.tuple [a, b]) ds ds) [] n := by
      refine ⟨by rw [List.length_zipWith]; omega, lc_map (fun _ => .bool true) n _ (fun x hx' Y hY => ?_) ?_⟩
      · obtain ⟨i', hi', rfl⟩ := List.getElem_of_mem hx'
        rw [List.getElem_zipWith]
        walk_at "dd"
        exact ⟨_, rfl, by omega, hx _ (List.getElem_mem _), hY⟩
      · refine ⟨List.replicate (List.zipWith (fun a b => PyData.tuple [a, b]) ds ds).length true, ?_, ?_⟩
        · rw [← blD_map, List.map_replicate, List.map_const']
        · rw [List.all_replicate]
          simpa using h
    cases d with
    | list es =>
      cases hd
      exact ⟨_, rfl, _, rfl, go⟩
    | tuple es =>
      cases hd
      exact ⟨_, rfl, _, rfl, go⟩
    | _ => cases hd
  have red : ∀ {A B : Prop} {c : Bool}, c = true → A → if c = true then A else B := fun e a => by
    rw [if_pos e]
    exact a
  have rec_ : ∀ {A B : Prop} {c : Bool}, c = false → B → if c = true then A else B := fun e a => by
    rw [if_neg (by rw [e]; decide)]
    exact a
  cases d with
  | list ds =>
    refine red rfl (fNe_self (hb _) (by decide) ⟨false, rfl, rec_ rfl (fNe_self (hb _) (by decide) ⟨false, rfl, rec_ rfl ⟨false, ds, rfl, false, ds, rfl, ?_⟩⟩)⟩)
    rw [if_pos rfl]
    exact seq false ds rfl hs.ofList
  | tuple ds =>
    refine red rfl (fNe_self (hb _) (by decide) ⟨false, rfl, rec_ rfl (fNe_self (hb _) (by decide) ⟨false, rfl, rec_ rfl ⟨true, ds, rfl, true, ds, rfl, ?_⟩⟩)⟩)
    rw [if_pos rfl]
    exact seq true ds rfl hs.ofTuple
  | none => exact rec_ rfl (red rfl (red rfl h))
  | bool b => exact rec_ rfl (rec_ rfl (rec_ rfl (red rfl (fEq_self (hb _) (by decide) ⟨true, rfl, red rfl (fEq_self (hb b) (by decide) h)⟩))))
  | str x => exact rec_ rfl (rec_ rfl (rec_ rfl (rec_ rfl (red rfl (fEq_self (hb _) (by decide) ⟨true, rfl, red rfl (fEq_self hs (by omega) h)⟩)))))
  | int i =>
    refine rec_ rfl (rec_ rfl (rec_ rfl (rec_ rfl (rec_ rfl (red rfl ?_)))))
    rw [if_pos (show isBoolD (.int i) = false from rfl)]
    exact fEq_self hs (by omega) h
  | dict kvs =>
    have := hs.shp.1
    cases this
/-- lists in the place of tuples, at each depth -/
def asL : Nat → PyData → PyData
  | 0, d => d
  | j + 1, .list ds => .list (ds.map (asL j))
  | j + 1, .tuple ds => .list (ds.map (asL j))
  | _ + 1, d => d
def con_law_as_lists : Nat → Con
  | 0 => fun _ _ _ => False
  | j + 1 => fun as n P => ∃ d, as = [.im d] ∧ Okd j d ∧ P (asL (j + 1) d) n
abbrev s_law_as_lists : Stmt := topS 23
theorem sc_law_as_lists : FnScope ["_law_thing", "_law_one"] ["_law_thing"] (defScope s_law_as_lists) := ⟨rfl, rfl, rfl, by decide +kernel, rfl, by decide +kernel, by decide +kernel⟩
-- calls: ['_law_as_lists']; slots: [(0, '_law_thing'), (1, '_law_one')]
theorem ok_law_as_lists {f : Addr} {fd : FuncData} {k j : Nat} (F : Fun K "_law_as_lists" "_law_as_lists" s_law_as_lists f fd) (B : Bt mg) (F_law_as_lists : Kf P w K mg base "_law_as_lists" k 1 (con_law_as_lists j)) : FnOk P w K mg base CX0 (k + 1) f fd ["_law_thing"] (spD K 1 (con_law_as_lists (j + 1))) := by
  refine def_ok F sc_law_as_lists rfl ?_
  intro cdv A outer s H E hr
  refine ⟨_, _, (dss_one (ds_ret (de_if (dt_val (de_isi2 kit_list kit_tuple (by rfl) B.isinstance (by rfl) B.list boot_list (by rfl) B.tuple boot_tuple (de_var 0))) (df_de (df_lc (own := [("_law_one", 1)]) rfl sc_law_as_lists.nd (di_seq (de_var 0)) (blkOk_by (by kernel_rfl)) (fun _ _ _ _ _ => (dg_name 1 sc_law_as_lists.nd rfl (.inl rfl))) (fun _ _ _ _ _ => dts_nil) (fun _ _ _ _ _ => (de_call F_law_as_lists hr (by rfl) (da_cons (de_var 1) da_nil))))) (de_var 0)))), fun as n P hl h => ?_⟩
  obtain ⟨d, rfl, hs, h⟩ := h
  walk_at "dd"
  have red : ∀ {A B : Prop} {c : Bool}, c = true → A → if c = true then A else B := fun e a => by
    rw [if_pos e]
    exact a
  have rec_ : ∀ {A B : Prop} {c : Bool}, c = false → B → if c = true then A else B := fun e a => by
    rw [if_neg (by rw [e]; decide)]
    exact a
  have go : ∀ ds : List PyData, (∃ i, j = i + 1 ∧ ds.length ≤ 50000 ∧ ∀ x ∈ ds, Okd i x) → P (.list (ds.map (asL j))) n → ds.length ≤ 50000 ∧ lcRun (dgName 1) dYes (dCall 1 (con_law_as_lists j) (dCons (dVar 1) dNil)) [Sl.im d, Sl.no] (fun ds n1 => P (PyData.list ds) n1) ds [] n := fun ds hq h => by
    obtain ⟨i, rfl, hl, hx⟩ := hq
    refine ⟨hl, lc_map (asL (i + 1)) n ds (fun x hx' Y hY => ?_) h⟩
    walk_at "dd"
    exact ⟨_, rfl, hx x hx', hY⟩
  cases d with
  | list ds => exact red rfl (go ds hs.ofList h)
  | tuple ds => exact red rfl (go ds hs.ofTuple h)
  | _ => exact rec_ rfl h
end
end K25

set_option Elab.async false
set_option linter.all false
set_option autoImplicit false
set_option maxRecDepth 100000
namespace K25
open PySem PySem.Spec PyProof.Rows L2 DL
local macro_rules | `(tactic| walk_at "dd") => `(tactic| simp only [dSeq, dIfS, dTst, dOp, dBx0, dBx1, dBx2, dC, fI_int, dAsg, dVar, dgName, dSb0, dSb2, dRet, dNext, en0, agSl, List.map_cons, List.map_nil, List.length_cons, List.length_nil, List.replicate, fPlus_ii, fPlus_ll, fPlus_tt, fPlus_ss, fTimes_ii, fTimes_li, List.cons_append, List.nil_append, List.getElem?_cons_zero, List.getElem?_cons_succ, Option.some.injEq, Sl.im.injEq, Sl.ow.injEq, exists_eq_left', exists_eq_left, true_and, and_true, PyData.bool.injEq, List.set_cons_zero, List.set_cons_succ, dCall, dCons, dNil, dConsB, dCbQ, fLen, dSq, seqD_list, seqD_tuple, dIx, fIx_int, Prod.mk.injEq, dAsgO, dLst, agD, Option.map_some, dFor, dItS, dIns, dOwn, dFrz, dFz, dPar, dTup, dgTup, dgsCons, dgsNil, dRng, dIf, dRgT, dRgL, dPass, dApp, dSet, dEnum, dNotT, dAndT, dOrT, dNotV, dAndV, dOrV, dIsi, fAll, fAny, fSum, fTuple, dFq, dLc, dwipe, dYes, dListQ, dSortQ, dSortSet, dRepF, dCut, dNoP, dPt, dNeg, dTru, fIsN, fEq_int, fNe_int, decide_eq_true_eq, and_assoc, exists_and_left, Bool.false_eq_true, if_false, if_true, Bool.not_eq_true', decide_eq_false_iff_not, dIn, dInP, dPure, dpFld, dpBx, dPutP, dLenP, dAppP, dGetP, imS, drFld, drVar, dRd])
/-! ### the book -/
structure Bk where
  nh : Nat
  es : List (Nat × List Nat)
def nsD (l : List Nat) : List PyData := l.map fun (b : Nat) => PyData.int (b : Int)
def bkey (e : Nat × List Nat) : PyData := .tuple [.int (e.1 : Int), .tuple (nsD e.2)]
def bidx (b : Bk) : List PyData := (List.range b.es.length).map fun (i : Nat) => PyData.int ((b.nh + i : Nat) : Int)
def blooks (b : Bk) : List PyData := List.replicate b.nh .none ++ b.es.map fun e => .tuple (nsD e.2)
def bookO (C : Addr) (b : Bk) : Own := .ins C ["known", "looks"] [.dct (b.es.map bkey) ((bidx b).map .dat), .lst ((blooks b).map .dat)]
/-- what a call writes -/
def wr (b : Bk) (p : Nat) (l : List Nat) : Nat := b.nh + b.es.idxOf (p, l)
def wrB (b : Bk) (p : Nat) (l : List Nat) : Bk := if (p, l) ∈ b.es then b else ⟨b.nh, b.es ++ [(p, l)]⟩
theorem nsD_inj {l m : List Nat} (h : nsD l = nsD m) : l = m := by
  unfold nsD at h
  exact List.map_inj_right (f := fun (b : Nat) => PyData.int (b : Int)) (fun x y e => by injection e with e; omega) |>.mp h
theorem bkey_inj {x y : Nat × List Nat} (h : bkey x = bkey y) : x = y := by
  unfold bkey at h
  simp only [PyData.tuple.injEq, List.cons.injEq, PyData.int.injEq, and_true] at h
  exact Prod.ext (by omega) (nsD_inj h.2)
theorem keyDs_ns : ∀ l : List Nat, keyDs (nsD l) = true
  | [] => rfl
  | x :: l => by
    show (true && keyDs (nsD l)) = true
    rw [keyDs_ns l]
    rfl
theorem depth_ns : ∀ l : List Nat, NestedKey.depthAll (nkTs (nsD l)) = 0
  | [] => rfl
  | x :: l => by
    show max 0 (NestedKey.depthAll (nkTs (nsD l))) = 0
    rw [depth_ns l]
    rfl
theorem bkey_ok (e : Nat × List Nat) : keyOk (bkey e) := by
  refine ⟨?_, ?_, _, rfl⟩
  · show (true && (keyDs (nsD e.2) && true)) = true
    rw [keyDs_ns]
    rfl
  · show max 0 (max (NestedKey.depthAll (nkTs (nsD e.2)) + 1) 0) + 1 ≤ 8
    rw [depth_ns]
    decide
theorem nk_bkey {x y : Nat × List Nat} : nkT (bkey x) = nkT (bkey y) ↔ x = y := ⟨fun h => bkey_inj (nkT_inj (bkey_ok x).1 (bkey_ok y).1 h), fun h => by rw [h]⟩
theorem idx_ne {α : Type} [BEq α] [LawfulBEq α] {x e : α} {l : List α} (h : x ≠ e) : (x :: l).idxOf e = l.idxOf e + 1 := by
  rw [List.idxOf_cons]
  have : (x == e) = false := beq_eq_false_iff_ne.mpr h
  rw [this]
  rfl
theorem valO_book {f : Nat → PyData} {e : Nat × List Nat} : ∀ (es : List (Nat × List Nat)) (k : Nat), valO (es.map bkey) (((List.range' k es.length).map f).map .dat) (bkey e) = if e ∈ es then some (.dat (f (k + es.idxOf e))) else none
  | [], k => by simp [valO]
  | x :: es, k => by
    rw [List.length_cons, List.range'_succ, List.map_cons, List.map_cons, List.map_cons]
    show (if nkT (bkey x) = nkT (bkey e) then some (Own.dat (f k)) else valO (es.map bkey) (((List.range' (k + 1) es.length).map f).map .dat) (bkey e)) = _
    by_cases h : x = e
    · subst h
      rw [if_pos rfl, if_pos List.mem_cons_self, List.idxOf_cons_self, Nat.add_zero]
    · rw [if_neg (fun z => h (nk_bkey.mp z)), valO_book es (k + 1)]
      by_cases he : e ∈ es
      · rw [if_pos he, if_pos (List.mem_cons_of_mem _ he), idx_ne h, Nat.add_right_comm, Nat.add_assoc]
      · rw [if_neg he, if_neg (by simp only [List.mem_cons, not_or]; exact ⟨fun z => h z.symm, he⟩)]
theorem put_book {e : Nat × List Nat} {o : Own} : ∀ (es : List (Nat × List Nat)) (os : List Own), os.length = es.length → e ∉ es → putO (es.map bkey) os (bkey e) o = os ++ [o] ∧ putKs (es.map bkey) (bkey e) = es.map bkey ++ [bkey e]
  | [], [], _, _ => ⟨rfl, rfl⟩
  | x :: es, u :: os, h, hn => by
    have hx : ¬ nkT (bkey x) = nkT (bkey e) := fun z => hn (by rw [nk_bkey.mp z]; exact List.mem_cons_self)
    have ih := put_book (o := o) es os (by simpa using h) fun z => hn (List.mem_cons_of_mem _ z)
    refine ⟨?_, ?_⟩
    · show (if nkT (bkey x) = nkT (bkey e) then _ else u :: putO (es.map bkey) os (bkey e) o) = _
      rw [if_neg hx, ih.1]
      rfl
    · show (if nkT (bkey x) = nkT (bkey e) then _ else bkey x :: putKs (es.map bkey) (bkey e)) = _
      rw [if_neg hx, ih.2]
      rfl
  | [], _ :: _, h, _ => by cases h
  | _ :: _, [], h, _ => by cases h
theorem bidx_eq (b : Bk) : bidx b = (List.range' 0 b.es.length).map fun (i : Nat) => PyData.int ((b.nh + i : Nat) : Int) := by
  unfold bidx
  rw [List.range_eq_range']
theorem bidx_len (b : Bk) : (bidx b).length = b.es.length := by
  unfold bidx
  rw [List.length_map, List.length_range]
theorem blooks_len (b : Bk) : (blooks b).length = b.nh + b.es.length := by
  unfold blooks
  rw [List.length_append, List.length_replicate, List.length_map]
theorem book_val (b : Bk) (e : Nat × List Nat) : valO (b.es.map bkey) ((bidx b).map .dat) (bkey e) = if e ∈ b.es then some (.dat (.int ((b.nh + b.es.idxOf e : Nat) : Int))) else none := by
  rw [bidx_eq, valO_book (f := fun (i : Nat) => PyData.int ((b.nh + i : Nat) : Int)), Nat.zero_add]
theorem fsN : (["known", "looks"] : List Str).Nodup := by decide +kernel
structure BkT (K : PySem.W.Frag) (mg : Str → Option Value) (C : Addr) : Prop where
  cl : Cls K C
  nK : NoAttr K C "known"
  nL : NoAttr K C "looks"
  mgC : mg "Book" = some (.ref C)
section
variable {P : Program} {w : World} {K : PySem.W.Frag} {mg : Str → Option Value} {base : Heap}
abbrev s_written : Stmt := inClass (topS 4) 1
theorem sc_written : FnScope ["self", "person", "looked", "key"] ["self", "person", "looked"] (defScope s_written) := ⟨rfl, rfl, rfl, by decide +kernel, rfl, by decide +kernel, by decide +kernel⟩
def con_written (C : Addr) : ConS Own := fun as n P => ∃ (b : Bk) (p : Nat) (l : List Nat), as = [.bx, .im (.int (p : Int)), .im (.tuple (nsD l))] ∧ n = bookO C b ∧ b.nh + b.es.length < 50000 ∧ l.length ≤ 1000 ∧ P (.int (wr (wrB b p l) p l : Int)) (bookO C (wrB b p l))
theorem ok_written {f C : Addr} {fd : FuncData} (F : Fun K "written" "Book.written" s_written f fd) (B : Bt mg) (T : BkT K mg C) : FnOk P w K mg base CX0 1 f fd ["self", "person", "looked"] (spD (S := Own) K 3 (con_written C)) := by
  refine def_ok F sc_written rfl ?_
  intro cdv A outer s H E hr
  refine ⟨_, _, (dss_cons (ds_set 3 sc_written.nd rfl (.inl rfl) (de_tup (da_cons (de_var 1) (da_cons (de_var 2) da_nil))))
    (dss_cons (ds_if (dt_notInP hr.units (dv_pure (de_var 3)) (dp_fld 0 T.cl T.nK (dp_bx 0)))
      (dss_cons (ds_putP hr.units (dp_fld 0 T.cl T.nK (dp_bx 0)) (dv_pure (de_var 3)) (dv_len (by rfl) B.len (dp_fld 1 T.cl T.nL (dp_bx 0))))
      (dss_one (ds_appendP (dp_fld 1 T.cl T.nL (dp_bx 0)) (de_var 2)))) dss_nil)
    (dss_one (ds_ret (dv_de (dv_get hr.units (dp_fld 0 T.cl T.nK (dp_bx 0)) (dv_pure (de_var 3)) (fun _ _ => rfl))))))), fun as n P hl h => ?_⟩
  obtain ⟨b, p, l, rfl, rfl, hb, hll, h⟩ := h
  walk_at "dd"
  have hk : PyData.tuple [PyData.int (p : Int), PyData.tuple (nsD l)] = bkey (p, l) := rfl
  have hok := bkey_ok (p, l)
  refine ⟨by decide, _, _, rfl, fsN, rfl, Nat.zero_lt_succ _, _, _, rfl, hok, ?_⟩
  rw [hk, book_val]
  by_cases hin : (p, l) ∈ b.es
  · rw [if_pos hin]
    have e1 : wrB b p l = b := if_pos hin
    rw [e1] at h
    rw [if_neg (show ¬ (some (Own.dat (.int ((b.nh + b.es.idxOf (p, l) : Nat) : Int)))).isSome = false from fun z => nomatch z)]
    exact ⟨_, _, rfl, fsN, rfl, Nat.zero_lt_succ _, _, _, rfl, hok, _, (book_val b (p, l)).trans (if_pos hin), h⟩
  · rw [if_neg hin]
    have e1 : wrB b p l = ⟨b.nh, b.es ++ [(p, l)]⟩ := if_neg hin
    rw [e1] at h
    rw [if_pos (show (none : Option Own).isSome = false from rfl)]
    have hp := put_book (e := (p, l)) (o := .dat (.int (((blooks b).map Own.dat).length : Int))) b.es ((bidx b).map .dat) (by rw [List.length_map, bidx_len]) hin
    refine ⟨_, _, rfl, fsN, rfl, Nat.succ_lt_succ (Nat.zero_lt_succ _), _, rfl, _, _, rfl, fsN, rfl, Nat.zero_lt_succ _, _, bidx b, rfl, by rw [List.length_map]; omega, hok, ?_⟩
    rw [hp.1, hp.2]
    refine ⟨rfl, _, _, rfl, fsN, rfl, Nat.succ_lt_succ (Nat.zero_lt_succ _), _, rfl, by rw [List.length_map, blooks_len]; omega, _, rfl, ?_⟩
    have k1 : bidx ⟨b.nh, b.es ++ [(p, l)]⟩ = bidx b ++ [.int (((blooks b).map Own.dat).length : Int)] := by
      unfold bidx
      show (List.range (b.es ++ [(p, l)]).length).map _ = _
      rw [List.length_append, List.length_singleton, List.range_succ, List.map_append, List.length_map, blooks_len]
      rfl
    have k2 : blooks ⟨b.nh, b.es ++ [(p, l)]⟩ = blooks b ++ [.tuple (nsD l)] := by
      unfold blooks
      show List.replicate b.nh PyData.none ++ (b.es ++ [(p, l)]).map _ = _
      rw [List.map_append, List.append_assoc]
      rfl
    have k3 := book_val ⟨b.nh, b.es ++ [(p, l)]⟩ (p, l)
    rw [if_pos (show (p, l) ∈ (⟨b.nh, b.es ++ [(p, l)]⟩ : Bk).es from List.mem_append_right _ List.mem_cons_self), k1] at k3
    unfold bookO at h
    rw [k1, k2] at h
    simp only [List.map_append, List.map_cons, List.map_nil] at h k3
    exact ⟨rfl, _, _, rfl, fsN, rfl, Nat.zero_lt_succ _, _, rfl, _, _, rfl, hok, _, k3, h⟩
abbrev s_is_first : Stmt := inClass (topS 4) 2
theorem sc_is_first : FnScope ["self", "writing"] ["self", "writing"] (defScope s_is_first) := ⟨rfl, rfl, rfl, by decide +kernel, rfl, by decide +kernel, by decide +kernel⟩
/-- a first slate -/
def isF (b : Bk) (x : Nat) : Bool := decide (x < b.nh)
def con_is_first (S : Type) (C : Addr) : ConS S := fun as n P => ∃ (b : Bk) (x : Nat), as = [.rd (bookO C b), .im (.int (x : Int))] ∧ x < b.nh + b.es.length ∧ P (.bool (isF b x)) n
theorem looks_at {b : Bk} {x : Nat} (h : x < b.nh + b.es.length) : (blooks b)[x]? = some (match b.es[x - b.nh]? with | some e => if x < b.nh then .none else .tuple (nsD e.2) | none => .none) := by
  unfold blooks
  by_cases hx : x < b.nh
  · rw [List.getElem?_append_left (by rw [List.length_replicate]; exact hx), List.getElem?_replicate, if_pos hx]
    cases b.es[x - b.nh]? with
    | none => rfl
    | some e => simp only [if_pos hx]
  · rw [List.getElem?_append_right (by rw [List.length_replicate]; omega), List.length_replicate, List.getElem?_map, List.getElem?_eq_getElem (by omega)]
    simp only [Option.map_some, if_neg hx]
theorem ok_is_first {S : Type} [MOw S] {f C : Addr} {fd : FuncData} (F : Fun K "is_first" "Book.is_first" s_is_first f fd) (B : Bt mg) (T : BkT K mg C) : FnOk P w K mg base CX0 1 f fd ["self", "writing"] (spD (S := S) K 2 (con_is_first S C)) := by
  refine def_ok F sc_is_first rfl ?_
  intro cdv A outer s H E hr
  refine ⟨_, _, (dss_one (ds_ret (de_isN (de_ix (de_dq (dv_de (dv_rd (dr_fld 1 T.cl T.nL (dr_var 0))))) (de_var 1) (fun _ _ => rfl)) de_non))), fun as n P hl h => ?_⟩
  obtain ⟨b, x, rfl, hx, h⟩ := h
  walk_at "dd"
  refine ⟨_, rfl, _, _, rfl, fsN, rfl, _, rfl, _, toD_dats _, false, _, rfl, _, atI_nat (looks_at hx), ?_⟩
  have e : isN (match b.es[x - b.nh]? with | some e => if x < b.nh then PyData.none else .tuple (nsD e.2) | none => .none) = isF b x := by
    unfold isF
    by_cases h1 : x < b.nh
    · cases b.es[x - b.nh]? with
      | none => simp only [isN, h1, decide_true]
      | some e => simp only [h1, if_true, isN, decide_true]
    · rw [List.getElem?_eq_getElem (by omega)]
      simp only [h1, if_false, isN, decide_false]
  rw [e]
  exact h
/-- what a new book is -/
def con_book (C : Addr) : ConN := fun as P => ∃ (d : PyData) (k : Bool) (ds : List PyData), as = [.im d] ∧ seqD d = some (k, ds) ∧ ds.length ≤ 1000 ∧ P (bookO C ⟨ds.length, []⟩)
abbrev s_init : Stmt := inClass (topS 4) 0
theorem sc_init : FnScope ["self", "hall", "person"] ["self", "hall"] (defScope s_init) := ⟨rfl, rfl, rfl, by decide +kernel, rfl, by decide +kernel, by decide +kernel⟩
theorem put1 (y : V) : putF "known" y [] = ([("known", y)] : List (Str × V)) := rfl
theorem put2 (y z : V) : putF "looks" z ([("known", y)] : List (Str × V)) = (["known", "looks"] : List Str).zip [y, z] := by
  show (if ("known" : Str) = "looks" then _ else (("known" : Str), y) :: putF "looks" z []) = _
  rw [if_neg (by decide +kernel)]
  rfl
def fldV : Stmt → Expr
  | .Assign _ e _ => e
  | _ => .Constant .none 0 ⟨0, 0, 0, 0⟩
theorem ok_init {f C : Addr} {fd : FuncData} (F : Fun K "__init__" "Book.__init__" s_init f fd) (B : Bt mg) (T : BkT K mg C) : FnOk P w K mg base CX0 2 f fd ["self", "hall"] (spNew K C 1 (con_book C)) := by
  refine F.ok sc_init (fun vs H Q E h => ?_) (fun cdv A outer s H vs Q E hr h => ?_)
  · obtain ⟨x, dx, ws, _, _, _, rfl, _, _, _, _, _, hl, _⟩ := h
    rw [List.length_cons, hl]
    rfl
  · obtain ⟨x, dx, ws, G, as, P', rfl, hx, hdx, hne, gx, gd, hl, ha, sg, hc, k⟩ := h
    obtain ⟨d, kk, ds, rfl, hsq, hlen, hP⟩ := hc
    cases ha with
    | @cons v0 _ _ _ hv hnil =>
      cases hnil
      have LC : DF (S := Nat) K (cxOf CX0 P w K mg base ["self", "hall", "person"] "Book.__init__" (defScope s_init) f cdv A outer s H E).nox (fldV ((defBody s_init).getD 1 s_init)) _ _ := (df_lc (own := [("person", 2)]) rfl sc_init.nd (di_seq (de_var 1)) (blkOk_by (by kernel_rfl)) (fun _ _ _ _ _ => (dg_name 2 sc_init.nd rfl (.inl rfl))) (fun _ _ _ _ _ => dts_nil) (fun _ _ _ _ _ => de_non))
      refine ⟨_, pss_cons (ps_fld (pv 0) pe_newN rfl) (pss_one (ps_fld (pv 0) LC.pe rfl)), ?_⟩
      intro q hq
      have nxq : x ≠ q := ne_of_none hx hq
      have ndq : dx ≠ q := ne_of_none hdx hq
      refine ⟨.ref x, rfl, x, C, dx, [], rfl, by rw [upd_ne nxq]; exact hx, T.cl, T.nK, by decide, ?_⟩
      rw [put1]
      have sgx : Same G (upd (upd H q (dN q [])) x (.ins C dx [("known", .ref q)])) := fun a u z => by
        rw [upd_ne (ne_of_none z gx), upd_ne (ne_of_none (sg a u z) hq)]
        exact sg a u z
      have gq : G q = none := sg.free hq
      have rl : Rl (S := Nat) K none G (upd (upd H q (dN q [])) x (.ins C dx [("known", .ref q)])) (L2.start ["self", "hall", "person"] [.ref x, v0]) (upd (upd H q (dN q [])) x (.ins C dx [("known", .ref q)])) G [.no, .im d, .no] 0 := by
        refine ⟨Grow.refl sgx, trivial, fun _ z => z.elim, rfl, fun i e z => ?_, fun i z => ?_, fun i o z => ?_, fun _ => [], fun _ _ _ _ z => (nomatch z), fun _ _ z => (nomatch z), fun i t o z1 z2 => ?_⟩
        · match i, z with
          | 0, z => cases z
          | 1, z =>
            cases z
            exact ⟨v0, rfl, hv⟩
          | 2, z => cases z
          | _ + 3, z => cases z
        · match i, z with
          | 0, z => cases z
          | 1, z => cases z
          | 2, z => cases z
          | _ + 3, z => cases z
        · match i, z with
          | 0, z => cases z
          | 1, z => cases z
          | 2, z => cases z
          | _ + 3, z => cases z
        · match i, z1 with
          | 0, z1 => cases z1; cases z2
          | 1, z1 => cases z1; cases z2
          | 2, z1 => cases z1; cases z2
          | _ + 3, z1 => cases z1
      unfold sFld
      dsimp only
      refine LC.se none G _ _ _ G _ (0 : Nat) (fun es _ => es = ds.map fun _ => PyData.none) _ rl ?_ fun r vs G' H' es n' g b e1 e2 e3 e4 e5 => ?_
      · walk_at "dd"
        rw [hsq]
        exact ⟨by omega, lc_map (fun _ => .none) _ _ (fun y hy Y hY => hY) rfl⟩
      · subst e5
        have hx' : H' x = some (.ins C dx [("known", .ref q)]) := g.kp x _ (fun z => z) upd_same
        have nrx : r ≠ x := fun z => by
          rw [z, upd_same] at e1
          cases e1
        have nrq : r ≠ q := fun z => by
          rw [z, upd_ne (Ne.symm nxq), upd_same] at e1
          cases e1
        have nrd : r ≠ dx := fun z => by
          rw [z, upd_ne hne, upd_ne ndq, hdx] at e1
          cases e1
        have hr0 : H r = none := by
          rw [upd_ne nrx, upd_ne nrq] at e1
          exact e1
        have hd' : H' dx = some (.own x) := g.kp dx _ (fun z => z) (by rw [upd_ne hne, upd_ne ndq]; exact hdx)
        have hq' : H' q = some (dN q []) := g.kp q _ (fun z => z) (by rw [upd_ne (Ne.symm nxq), upd_same])
        refine ⟨.ref x, rfl, x, C, dx, _, rfl, hx', T.cl, T.nL, (by show 1 < 1000; decide), ?_⟩
        rw [put2]
        have gx' : G' x = none := g.fr x (by rw [upd_same]; exact fun z => nomatch z) gx
        have gd' : G' dx = none := g.fr dx (by rw [upd_ne hne, upd_ne ndq, hdx]; exact fun z => nomatch z) gd
        have gq' : G' q = none := g.fr q (by rw [upd_ne (Ne.symm nxq), upd_same]; exact fun z => nomatch z) gq
        refine k G' _ (bookO C ⟨ds.length, []⟩) [x, dx, q, r] g.gg (fun a u z => ?_) (fun a z1 z2 => g.fr a ?_ z2) (fun a u z1 z2 => ?_) ?_ (fun a ha => ?_) hP
        · rw [upd_ne (ne_of_none z gx')]
          exact g.gh a u z
        · by_cases za : a = x
          · rw [za, upd_same]
            exact fun z => nomatch z
          · by_cases zq : a = q
            · rw [upd_ne za, zq, upd_same]
              exact fun z => nomatch z
            · rw [upd_ne za, upd_ne zq]
              exact z1
        · rw [upd_ne z1]
          exact g.kp a u (fun z => z) (by rw [upd_ne z1, upd_ne (ne_of_none z2 hq)]; exact z2)
        · have hb0 : blooks ⟨ds.length, []⟩ = ds.map fun _ => PyData.none := by
            unfold blooks
            show List.replicate ds.length PyData.none ++ [] = _
            rw [List.append_nil, List.map_const']
          unfold bookO
          rw [hb0]
          refine .ins (vs := [.ref q, .ref r]) (fp := [q, r]) upd_same (by rw [upd_ne hne]; exact hd') hne rfl ?_ (by simp [nxq, Ne.symm nrx]) (by simp [ndq, Ne.symm nrd])
          refine .cons (f := [q]) (fs := [r]) (.dct ⟨[], by rw [upd_ne (Ne.symm nxq)]; exact hq', rfl, rfl, rfl, List.nodup_nil, fun _ z => nomatch z⟩ .nil .nil (fun z => nomatch z)) (.cons (f := [r]) (fs := []) (.lst (by rw [upd_ne nrx]; exact e3) (OwsR.dat e4) (fun z => nomatch z)) .nil (fun _ _ z => nomatch z)) (by simp [Ne.symm nrq])
        · simp only [List.mem_cons, List.not_mem_nil, or_false] at ha
          rcases ha with rfl | rfl | rfl | rfl
          · exact ⟨.inl rfl, gx'⟩
          · exact ⟨.inr (.inl rfl), gd'⟩
          · exact ⟨.inr (.inr hq), gq'⟩
          · exact ⟨.inr (.inr hr0), e2⟩
end
end K25

set_option Elab.async false
set_option linter.all false
set_option autoImplicit false
set_option maxRecDepth 100000
namespace K25
open PySem PySem.Spec PyProof.Rows L2 DL
/-- a list or tuple of ints -/
def IntsR (d : PyData) (t : List Int) : Prop := ∃ k, seqD d = some (k, t.map PyData.int)
def RowsR (d : PyData) (hs : List (List Int)) : Prop := ∃ k ds, seqD d = some (k, ds) ∧ ds.length = hs.length ∧ ∀ i, i < hs.length → ∃ d', ds[i]? = some d' ∧ IntsR d' (hs.getD i [])
theorem IntsR.tup (t : List Int) : IntsR (.tuple (t.map PyData.int)) t := ⟨true, rfl⟩
theorem IntsR.lst (t : List Int) : IntsR (.list (t.map PyData.int)) t := ⟨false, rfl⟩
theorem RowsR.lst (hs : List (List Int)) : RowsR (.list (hs.map rowD)) hs := ⟨false, _, rfl, by rw [List.length_map], fun i hi => ⟨rowD hs[i], by rw [List.getElem?_map, List.getElem?_eq_getElem hi]; rfl, by
  rw [List.getD_eq_getElem?_getD, List.getElem?_eq_getElem hi]
  exact IntsR.tup _⟩⟩
end K25

set_option Elab.async false
set_option linter.all false
set_option autoImplicit false
set_option maxRecDepth 100000
namespace K25
open PySem PySem.Spec PyProof.Rows L2 DL
local macro_rules | `(tactic| walk_at "dd") => `(tactic| simp only [dSeq, dIfS, dTst, dOp, dBx0, dBx1, dBx2, dC, fI_int, dAsg, dVar, dgName, dSb0, dSb2, dRet, dNext, en0, agSl, List.map_cons, List.map_nil, List.length_cons, List.length_nil, List.replicate, fPlus_ii, fPlus_ll, fPlus_tt, fPlus_ss, fTimes_ii, fTimes_li, List.cons_append, List.nil_append, List.getElem?_cons_zero, List.getElem?_cons_succ, Option.some.injEq, Sl.im.injEq, Sl.ow.injEq, exists_eq_left', exists_eq_left, true_and, and_true, PyData.bool.injEq, List.set_cons_zero, List.set_cons_succ, dCall, dCons, dNil, dConsB, dCbQ, fLen, dSq, seqD_list, seqD_tuple, dIx, fIx_int, Prod.mk.injEq, dAsgO, dLst, agD, Option.map_some, dFor, dItS, dIns, dOwn, dFrz, dFz, dPar, dTup, dgTup, dgsCons, dgsNil, dRng, dIf, dRgT, dRgL, dPass, dApp, dSet, dEnum, dNotT, dAndT, dOrT, dNotV, dAndV, dOrV, dIsi, fAll, fAny, fSum, fTuple, dFq, dLc, dwipe, dYes, dListQ, dSortQ, dSortSet, dRepF, dCut, dNoP, dPt, dNeg, dTru, fIsN, fEq_int, fNe_int, decide_eq_true_eq, and_assoc, exists_and_left, Bool.false_eq_true, if_false, if_true, Bool.not_eq_true', decide_eq_false_iff_not, dIn, dInP, dPure, dpFld, dpBx, dPutP, dLenP, dAppP, dGetP, imS, drFld, drVar, dRd, dMethB, dMethR, dConsR])
/-! ### what stands on slates, beat by beat -/
def look (h : List (List Int)) (sl : List Nat) (p : Nat) : List Nat := (h.getD p []).map fun s => sl.getD s.toNat 0
def stepP (h : List (List Int)) (sl : List Nat) (st : Bk × List Nat) (p : Int) : Bk × List Nat := (wrB st.1 p.toNat (look h sl p.toNat), st.2.set p.toNat (wr (wrB st.1 p.toNat (look h sl p.toNat)) p.toNat (look h sl p.toNat)))
def stepB (h : List (List Int)) (b : Bk) (sl : List Nat) (beat : List Int) : Bk × List Nat := beat.foldl (stepP h sl) (b, sl)
def runR (h : List (List Int)) : Bk → List Nat → List (List Int) → Bk × List (List Nat)
  | b, sl, [] => (b, [sl])
  | b, sl, r :: hs => ((runR h (stepB h b sl r).1 (stepB h b sl r).2 hs).1, sl :: (runR h (stepB h b sl r).1 (stepB h b sl r).2 hs).2)
structure SlOk (b : Bk) (sl : List Nat) : Prop where
  ln : sl.length = b.nh
  lt : ∀ x ∈ sl, x < b.nh + b.es.length
theorem wrB_nh (b : Bk) (p : Nat) (l : List Nat) : (wrB b p l).nh = b.nh := by
  unfold wrB
  split <;> rfl
theorem wrB_mem (b : Bk) (p : Nat) (l : List Nat) : (p, l) ∈ (wrB b p l).es := by
  unfold wrB
  split
  · assumption
  · exact List.mem_append_right _ List.mem_cons_self
theorem wrB_len (b : Bk) (p : Nat) (l : List Nat) : b.es.length ≤ (wrB b p l).es.length ∧ (wrB b p l).es.length ≤ b.es.length + 1 := by
  unfold wrB
  split
  · omega
  · simp only [List.length_append, List.length_singleton]
    omega
theorem wr_lt (b : Bk) (p : Nat) (l : List Nat) : wr (wrB b p l) p l < (wrB b p l).nh + (wrB b p l).es.length := by
  unfold wr
  have := List.idxOf_lt_length_of_mem (wrB_mem b p l)
  omega
theorem stepP_ok {h : List (List Int)} {sl : List Nat} {b : Bk} {fo : List Nat} (hk : SlOk b fo) (p : Int) : SlOk (stepP h sl (b, fo) p).1 (stepP h sl (b, fo) p).2 := by
  have h1 := wrB_len b p.toNat (look h sl p.toNat)
  have h2 := wr_lt b p.toNat (look h sl p.toNat)
  have h3 := wrB_nh b p.toNat (look h sl p.toNat)
  refine ⟨by show (fo.set _ _).length = (wrB b _ _).nh; rw [List.length_set, h3]; exact hk.ln, fun x hx => ?_⟩
  rcases List.mem_or_eq_of_mem_set hx with z | z
  · have := hk.lt x z
    show x < (wrB b _ _).nh + (wrB b _ _).es.length
    omega
  · rw [z]
    exact h2
def callsN (hs : List (List Int)) : Nat := (hs.map List.length).sum
section
variable {P : Program} {w : World} {K : PySem.W.Frag} {mg : Str → Option Value} {base : Heap}
def lD (sl : List Nat) : PyData := .list (nsD sl)
def con_slate_rows (C : Addr) : ConS Own := fun as n P => ∃ (d1 d2 : PyData) (h hs : List (List Int)) (b : Bk), as = [.bx, .im d1, .im d2] ∧ RowsR d1 h ∧ RowsR d2 hs ∧ n = bookO C b ∧ b.nh = h.length ∧ (∀ r ∈ h, r.length ≤ 1000 ∧ ∀ s ∈ r, 0 ≤ s ∧ s < (h.length : Int)) ∧ (∀ r ∈ hs, ∀ p ∈ r, 0 ≤ p ∧ p < (h.length : Int)) ∧ h.length ≤ 100 ∧ hs.length ≤ 1000 ∧ b.es.length + callsN hs ≤ 40000 ∧
  P (.list ((runR h b (List.range h.length) hs).2.map lD)) (bookO C (runR h b (List.range h.length) hs).1)
abbrev s_slate_rows : Stmt := topS 5
theorem sc_slate_rows : FnScope ["book", "hall", "history", "slates", "rows", "beat", "following", "person", "looked", "seen"] ["book", "hall", "history"] (defScope s_slate_rows) := ⟨rfl, rfl, rfl, by decide +kernel, rfl, by decide +kernel, by decide +kernel⟩
theorem ok_slate_rows {f C : Addr} {fd : FuncData} (F : Fun K "slate_rows" "slate_rows" s_slate_rows f fd) (B : Bt mg) (T : BkT K mg C) (F_written : Km (S := Own) P w K mg base C "written" 1 3 (con_written C)) : FnOk P w K mg base CX0 2 f fd ["book", "hall", "history"] (spD (S := Own) K 3 (con_slate_rows C)) := by
  refine def_ok F sc_slate_rows rfl ?_
  intro cdv A outer s H E hr
  refine ⟨_, _, (dss_cons (ds_set 3 sc_slate_rows.nd rfl (.inr rfl) (df_de (df_listRg rfl (by rfl) B.list (by rfl) B.range (de_len (by rfl) B.len (de_dq (de_var 1))))))
      (dss_cons (ds_setO 4 sc_slate_rows.nd rfl (.inl rfl) (df_lst (da_cons (de_var 3) da_nil)))
      (dss_cons (ds_for PassesOwn.never rfl (di_seq (de_var 2)) (dg_name 5 sc_slate_rows.nd rfl (.inl rfl)) (dss_cons (ds_setO 6 sc_slate_rows.nd rfl (.inl rfl) (df_list (by rfl) B.list (de_dq (de_var 3))))
      (dss_cons (ds_for PassesOwn.never rfl (di_seq (de_var 5)) (dg_name 7 sc_slate_rows.nd rfl (.inl rfl)) (dss_cons (ds_set 8 sc_slate_rows.nd rfl (.inl rfl) (de_tuple (by rfl) B.tuple (df_dq (df_lc (own := [("seen", 9)]) rfl sc_slate_rows.nd (di_seq (de_ix (de_dq (de_var 1)) (de_var 7) (fun _ _ => rfl))) (blkOk_by (by kernel_rfl)) (fun _ _ _ _ _ => (dg_name 9 sc_slate_rows.nd rfl (.inl rfl))) (fun _ _ _ _ _ => dts_nil) (fun _ _ _ _ _ => (de_ix (de_dq (de_var 3)) (de_var 9) (fun _ _ => rfl)))))))
      (dss_one (ds_setItem' 6 (de_methB 0 T.cl F_written (hr.mono (by decide)) (da_cons (de_var 7) (da_cons (de_var 8) da_nil))) (de_var 7)))))
      (dss_frz 6 (dss_cons (ds_append' 4 (de_var 6))
      (dss_one (ds_set 3 sc_slate_rows.nd rfl (.inr rfl) (de_var 6))))))))
      (dss_frz 4 (dss_one (ds_ret (de_var 4))))))), fun as n P hl h => ?_⟩
  obtain ⟨d1, d2, h0, hs, b, rfl, ⟨k1, e1, hs1, hl1, hr1⟩, ⟨k2, e2, hs2, hl2, hr2⟩, rfl, hnh, hH, hB, hh1, hh2, hc, h⟩ := h
  walk_at "dd"
  refine ⟨k1, e1, hs1, by omega, by omega, by decide, ?_⟩
  rw [hs2]
  have hrg : rgD (e1.length : Int).toNat = nsD (List.range h0.length) := by
    rw [Int.toNat_natCast, hl1]
    rfl
  rw [hrg]
  refine for_ind (fun i ε m => ∃ (b1 : Bk) (sl : List Nat) (pre : List (List Nat)) (x5 x6 x7 x8 x9 : Sl), ε = [Sl.bx, Sl.im d1, Sl.im d2, Sl.im (lD sl), Sl.ow ((pre ++ [sl]).map lD), x5, x6, x7, x8, x9] ∧ m = bookO C b1 ∧ SlOk b1 sl ∧ b1.nh = h0.length ∧ b1.es.length + callsN (hs.drop i) ≤ 40000 ∧ pre.length = i ∧
      (runR h0 b (List.range h0.length) hs).1 = (runR h0 b1 sl (hs.drop i)).1 ∧ (runR h0 b (List.range h0.length) hs).2 = pre ++ (runR h0 b1 sl (hs.drop i)).2) _ _ (bookO C b) 0
    ⟨b, List.range h0.length, [], .no, .no, .no, .no, .no, rfl, rfl, ⟨by rw [List.length_range, hnh], fun x hx => by have := List.mem_range.mp hx; omega⟩, hnh, hc, rfl, rfl, rfl⟩ (fun i y ε m hi hI Y hY => ?_) (fun ε m hI => ?_)
  · obtain ⟨b1, sl, pre, x5, x6, x7, x8, x9, rfl, rfl, hk, hn1, hc1, hpl, hq1, hq2⟩ := hI
    rw [Nat.zero_add] at hc1 hpl hq1 hq2 hY
    have hi2 : i < hs.length := by rw [← hl2]; exact (List.getElem?_eq_some_iff.mp hi).1
    obtain ⟨y', hy', ky, hky⟩ := hr2 i hi2
    rw [hi] at hy'
    cases hy'
    have hgi : hs.getD i [] = hs[i] := by rw [List.getD_eq_getElem?_getD, List.getElem?_eq_getElem hi2]; rfl
    rw [hgi] at hky
    have hdr : hs.drop i = hs[i] :: hs.drop (i + 1) := List.drop_eq_getElem_cons hi2
    have hBi := hB hs[i] (List.getElem_mem hi2)
    have hcs : callsN (hs.drop i) = hs[i].length + callsN (hs.drop (i + 1)) := by
      rw [hdr]
      rfl
    walk_at "dd"
    rw [hky]
    refine ⟨false, nsD sl, rfl, ?_⟩
    refine for_ind (fun j ε m => ∃ (b2 : Bk) (fo : List Nat) (y7 y8 y9 : Sl), ε = [Sl.bx, Sl.im d1, Sl.im d2, Sl.im (lD sl), Sl.ow ((pre ++ [sl]).map lD), Sl.im y, Sl.ow (nsD fo), y7, y8, y9] ∧ m = bookO C b2 ∧ SlOk b2 fo ∧ b2.nh = h0.length ∧ b2.es.length ≤ b1.es.length + j ∧ stepB h0 b1 sl hs[i] = (hs[i].drop j).foldl (stepP h0 sl) (b2, fo)) _ _ (bookO C b1) 0
      ⟨b1, sl, x7, x8, x9, rfl, rfl, hk, hn1, Nat.le_refl _, rfl⟩ (fun j z ε m hj hI Z hZ => ?_) (fun ε m hI => ?_)
    · obtain ⟨b2, fo, y7, y8, y9, rfl, rfl, hk2, hn2, hc2, hst⟩ := hI
      rw [Nat.zero_add] at hc2 hst hZ
      rw [List.getElem?_map] at hj
      cases hp : hs[i][j]? with
      | none =>
        rw [hp] at hj
        cases hj
      | some p =>
        rw [hp] at hj
        cases hj
        have hjl := (List.getElem?_eq_some_iff.mp hp).1
        have hpr := hBi p (List.mem_of_getElem? hp)
        have hpn : p.toNat < h0.length := by omega
        have hpe : (p.toNat : Int) = p := Int.toNat_of_nonneg hpr.1
        obtain ⟨r', hr', kr, hkr⟩ := hr1 p.toNat hpn
        have hgp : h0.getD p.toNat [] = h0[p.toNat] := by rw [List.getD_eq_getElem?_getD, List.getElem?_eq_getElem hpn]; rfl
        rw [hgp] at hkr
        have hHp := hH h0[p.toNat] (List.getElem_mem hpn)
        have e2 : hs[i].drop j = p :: hs[i].drop (j + 1) := by
          obtain ⟨_, e⟩ := List.getElem?_eq_some_iff.mp hp
          rw [← e]
          exact List.drop_eq_getElem_cons hjl
        rw [e2, List.foldl_cons] at hst
        walk_at "dd"
        refine ⟨k1, e1, hs1, r', ?_, ?_⟩
        · have := atI_nat hr'
          rw [hpe] at this
          exact this
        rw [hkr]
        refine ⟨by rw [List.length_map]; omega, ?_⟩
        refine lc_map (fun d => .int ((match d with | .int s => sl.getD s.toNat 0 | _ => 0 : Nat) : Int)) _ _ (fun u hu U hU => ?_) ?_
        · obtain ⟨s, hs', rfl⟩ := List.mem_map.mp hu
          have hsr := hHp.2 s hs'
          have hsn : s.toNat < sl.length := by rw [hk.ln, hn1]; omega
          walk_at "dd"
          refine ⟨false, nsD sl, rfl, .int ((sl.getD s.toNat 0 : Nat) : Int), ?_, hU⟩
          have hx := atI_nat (xs := nsD sl) (j := s.toNat) (v := .int ((sl.getD s.toNat 0 : Nat) : Int)) (by
            unfold nsD
            rw [List.getElem?_map, List.getElem?_eq_getElem hsn, List.getD_eq_getElem?_getD, List.getElem?_eq_getElem hsn]
            rfl)
          rw [Int.toNat_of_nonneg hsr.1] at hx
          exact hx
        · have hlk : (h0[p.toNat].map PyData.int).map (fun d => PyData.int ((match d with | .int s => sl.getD s.toNat 0 | _ => 0 : Nat) : Int)) = nsD (look h0 sl p.toNat) := by
            unfold look nsD
            rw [List.map_map, List.map_map, hgp]
            rfl
          rw [hlk]
          have hb2 := wrB_len b2 p.toNat (look h0 sl p.toNat)
          have hb3 := wrB_nh b2 p.toNat (look h0 sl p.toNat)
          have hlkl : (look h0 sl p.toNat).length ≤ 1000 := by
            unfold look
            rw [List.length_map, hgp]
            exact hHp.1
          refine ⟨⟨_, _, rfl, by decide +kernel⟩, b2, p.toNat, look h0 sl p.toNat, by rw [hpe], rfl, by omega, hlkl, hpr.1, by unfold nsD; rw [List.length_map, hk2.ln]; omega, hZ _ _ ⟨_, fo.set p.toNat (wr (wrB b2 p.toNat (look h0 sl p.toNat)) p.toNat (look h0 sl p.toNat)), .im (.int p), .im (.tuple (nsD (look h0 sl p.toNat))), y9, ?_, rfl, stepP_ok (h := h0) (sl := sl) hk2 p, hb3.trans hn2, by omega, hst⟩⟩
          unfold nsD
          rw [List.map_set]
    · obtain ⟨b2, fo, y7, y8, y9, rfl, rfl, hk2, hn2, hc2, hst⟩ := hI
      rw [Nat.zero_add, List.length_map] at hc2 hst
      rw [List.drop_length, List.foldl_nil] at hst
      walk_at "dd"
      refine ⟨by rw [List.length_map, List.length_append, List.length_singleton]; omega, hY _ _ ⟨b2, fo, pre ++ [sl], .im y, .im (lD fo), y7, y8, y9, ?_, rfl, hk2, hn2, by omega, by rw [List.length_append, List.length_singleton]; omega, ?_, ?_⟩⟩
      · rw [List.map_append (l₁ := pre ++ [sl])]
        rfl
      · rw [hq1, hdr]
        show (runR h0 (stepB h0 b1 sl hs[i]).1 (stepB h0 b1 sl hs[i]).2 (hs.drop (i + 1))).1 = _
        rw [hst]
      · rw [hq2, hdr]
        show pre ++ (sl :: (runR h0 (stepB h0 b1 sl hs[i]).1 (stepB h0 b1 sl hs[i]).2 (hs.drop (i + 1))).2) = _
        rw [hst, List.append_assoc]
        rfl
  · obtain ⟨b1, sl, pre, x5, x6, x7, x8, x9, rfl, rfl, hk, hn1, hc1, hpl, hq1, hq2⟩ := hI
    rw [Nat.zero_add, hl2, List.drop_length] at hq1 hq2
    walk_at "dd"
    rw [hq1, hq2] at h
    exact h
theorem runR_ne (h : List (List Int)) : ∀ (b : Bk) (sl : List Nat) (hs : List (List Int)), (runR h b sl hs).2 ≠ []
  | _, _, [] => fun z => nomatch z
  | _, _, _ :: _ => fun z => nomatch z
/-- the last slates -/
def lastS (h : List (List Int)) (b : Bk) (hs : List (List Int)) : List Nat := (runR h b (List.range h.length) hs).2.getLast (runR_ne _ _ _ _)
def endB (h : List (List Int)) (b : Bk) (hs : List (List Int)) : Bk := (runR h b (List.range h.length) hs).1
def con_last_slates (C : Addr) : ConS Own := fun as n P => ∃ (d1 d2 : PyData) (h hs : List (List Int)) (b : Bk), as = [.bx, .im d1, .im d2] ∧ RowsR d1 h ∧ RowsR d2 hs ∧ n = bookO C b ∧ b.nh = h.length ∧ (∀ r ∈ h, r.length ≤ 1000 ∧ ∀ s ∈ r, 0 ≤ s ∧ s < (h.length : Int)) ∧ (∀ r ∈ hs, ∀ p ∈ r, 0 ≤ p ∧ p < (h.length : Int)) ∧ h.length ≤ 100 ∧ hs.length ≤ 1000 ∧ b.es.length + callsN hs ≤ 40000 ∧
  P (lD (lastS h b hs)) (bookO C (endB h b hs))
abbrev s_last_slates : Stmt := topS 6
theorem sc_last_slates : FnScope ["book", "hall", "history"] ["book", "hall", "history"] (defScope s_last_slates) := ⟨rfl, rfl, rfl, by decide +kernel, rfl, by decide +kernel, by decide +kernel⟩
theorem ok_last_slates {f C : Addr} {fd : FuncData} (F : Fun K "last_slates" "last_slates" s_last_slates f fd) (B : Bt mg) (F_slate_rows : Kf (S := Own) P w K mg base "slate_rows" 2 3 (con_slate_rows C)) : FnOk P w K mg base CX0 3 f fd ["book", "hall", "history"] (spD (S := Own) K 3 (con_last_slates C)) := by
  refine def_ok F sc_last_slates rfl ?_
  intro cdv A outer s H E hr
  refine ⟨_, _, (dss_one (ds_ret (de_ix (de_dq (de_call F_slate_rows (hr.mono (by decide)) (by rfl) (da_box 0 (da_cons (de_var 1) (da_cons (de_var 2) da_nil))))) (de_neg de_int) (fun _ _ => rfl)))), fun as n P hl h => ?_⟩
  obtain ⟨d1, d2, h0, hs, b, rfl, q1, q2, q3, q4, q5, q6, q7, q8, q9, h⟩ := h
  walk_at "dd"
  refine ⟨d1, d2, h0, hs, b, rfl, q1, q2, q3, q4, q5, q6, q7, q8, q9, false, _, rfl, lD (lastS h0 b hs), ?_, h⟩
  have e := List.dropLast_concat_getLast (runR_ne h0 b (List.range h0.length) hs)
  conv => lhs; rw [← e]
  rw [List.map_append]
  exact atI_last _ _
end
end K25

set_option Elab.async false
set_option linter.all false
set_option autoImplicit false
set_option maxRecDepth 100000
namespace K25
open PySem PySem.Spec PyProof.Rows L2 DL
/-! ### how large a book grows -/
theorem stepB_all (h : List (List Int)) (sl : List Nat) : ∀ (beat : List Int) (st : Bk × List Nat), SlOk st.1 st.2 → SlOk (beat.foldl (stepP h sl) st).1 (beat.foldl (stepP h sl) st).2 ∧ (beat.foldl (stepP h sl) st).1.nh = st.1.nh ∧ (beat.foldl (stepP h sl) st).1.es.length ≤ st.1.es.length + beat.length
  | [], st, hk => ⟨hk, rfl, Nat.le_refl _⟩
  | p :: beat, (b, fo), hk => by
    obtain ⟨q1, q2, q3⟩ := stepB_all h sl beat (stepP h sl (b, fo) p) (stepP_ok hk p)
    have h1 := wrB_len b p.toNat (look h sl p.toNat)
    have h3 := wrB_nh b p.toNat (look h sl p.toNat)
    refine ⟨q1, q2.trans h3, ?_⟩
    have e : (stepP h sl (b, fo) p).1.es.length ≤ b.es.length + 1 := h1.2
    rw [List.foldl_cons, List.length_cons]
    show _ ≤ b.es.length + (beat.length + 1)
    omega
theorem runR_all (h : List (List Int)) : ∀ (hs : List (List Int)) (b : Bk) (sl : List Nat), SlOk b sl → (runR h b sl hs).1.nh = b.nh ∧ (runR h b sl hs).1.es.length ≤ b.es.length + callsN hs ∧ ∀ s ∈ (runR h b sl hs).2, s.length = b.nh
  | [], b, sl, hk => ⟨rfl, Nat.le_refl _, fun s hs => by
      rw [show s = sl from List.mem_singleton.mp hs]
      exact hk.ln⟩
  | r :: hs, b, sl, hk => by
    obtain ⟨q1, q2, q3⟩ := stepB_all h sl r (b, sl) hk
    obtain ⟨r1, r2, r3⟩ := runR_all h hs (stepB h b sl r).1 (stepB h b sl r).2 q1
    have e : (stepB h b sl r).1.nh = b.nh := q2
    have e2 : (stepB h b sl r).1.es.length ≤ b.es.length + r.length := q3
    have e3 : callsN (r :: hs) = r.length + callsN hs := rfl
    refine ⟨r1.trans e, ?_, fun s hs' => ?_⟩
    · rw [e3]
      show (runR h (stepB h b sl r).1 (stepB h b sl r).2 hs).1.es.length ≤ _
      omega
    · rcases List.mem_cons.mp hs' with z | z
      · rw [z]
        exact hk.ln
      · exact (r3 s z).trans e
theorem slOk_range {h : List (List Int)} {b : Bk} (e : b.nh = h.length) : SlOk b (List.range h.length) := ⟨by rw [List.length_range, e], fun x hx => by
  have := List.mem_range.mp hx
  omega⟩
theorem endB_all {h : List (List Int)} {b : Bk} (hs : List (List Int)) (e : b.nh = h.length) : (endB h b hs).nh = h.length ∧ (endB h b hs).es.length ≤ b.es.length + callsN hs ∧ (lastS h b hs).length = h.length := by
  obtain ⟨r1, r2, r3⟩ := runR_all h hs b _ (slOk_range e)
  exact ⟨r1.trans e, r2, (r3 _ (List.getLast_mem _)).trans e⟩
theorem callsN_le {k : Nat} : ∀ hs : List (List Int), (∀ r ∈ hs, r.length ≤ k) → callsN hs ≤ k * hs.length
  | [], _ => Nat.zero_le _
  | r :: hs, h => by
    have h1 := h r List.mem_cons_self
    have h2 := callsN_le hs fun x hx => h x (List.mem_cons_of_mem _ hx)
    show r.length + callsN hs ≤ k * (hs.length + 1)
    rw [Nat.mul_add, Nat.mul_one]
    omega
/-- halls and histories as the book takes them -/
def HallOk (h : List (List Int)) : Prop := (∀ r ∈ h, r.length ≤ 1000 ∧ ∀ s ∈ r, 0 ≤ s ∧ s < (h.length : Int)) ∧ h.length ≤ 100
def HistOk (h hs : List (List Int)) : Prop := (∀ r ∈ hs, ∀ p ∈ r, 0 ≤ p ∧ p < (h.length : Int)) ∧ hs.length ≤ 1000 ∧ callsN hs ≤ 10000
end K25

set_option Elab.async false
set_option linter.all false
set_option autoImplicit false
set_option maxRecDepth 100000
namespace K25
open PySem PySem.Spec PyProof.Rows L2 DL
/-! ### writings and trees -/
inductive Tr where
  | leaf (p : Nat)
  | node (p : Nat) (ts : List Tr)
theorem gdT {α : Type} {l : List α} {i : Nat} {d x : α} (h : l[i]? = some x) : l.getD i d = x := by
  rw [List.getD_eq_getElem?_getD, h]
  rfl
def tnStep (acc : List Tr) (e : Nat × List Nat) : List Tr := acc ++ [Tr.node e.1 (e.2.map fun x => acc.getD x (.leaf 0))]
def tns (nh : Nat) (es : List (Nat × List Nat)) : List Tr := es.foldl tnStep ((List.range nh).map Tr.leaf)
def tt (b : Bk) (x : Nat) : Tr := (tns b.nh b.es).getD x (.leaf 0)
theorem tn_len : ∀ (es : List (Nat × List Nat)) (acc : List Tr), (es.foldl tnStep acc).length = acc.length + es.length
  | [], acc => rfl
  | e :: es, acc => by
    rw [List.foldl_cons, tn_len es]
    unfold tnStep
    simp only [List.length_append, List.length_cons, List.length_nil]
    omega
theorem tns_len (nh : Nat) (es : List (Nat × List Nat)) : (tns nh es).length = nh + es.length := by
  unfold tns
  rw [tn_len, List.length_map, List.length_range]
theorem tn_pre : ∀ (es : List (Nat × List Nat)) (acc : List Tr) (x : Nat), x < acc.length → (es.foldl tnStep acc)[x]? = acc[x]?
  | [], _, _, _ => rfl
  | e :: es, acc, x, hx => by
    have hx2 : x < (tnStep acc e).length := by
      unfold tnStep
      rw [List.length_append]
      omega
    rw [List.foldl_cons, tn_pre es _ x hx2]
    unfold tnStep
    rw [List.getElem?_append_left hx]
structure GrB (b b' : Bk) : Prop where
  nh : b'.nh = b.nh
  es : ∃ t, b'.es = b.es ++ t
theorem GrB.refl (b : Bk) : GrB b b := ⟨rfl, [], by rw [List.append_nil]⟩
theorem GrB.trans {a b c : Bk} (h : GrB a b) (g : GrB b c) : GrB a c := by
  obtain ⟨t, ht⟩ := h.es
  obtain ⟨u, hu⟩ := g.es
  exact ⟨g.nh.trans h.nh, t ++ u, by rw [hu, ht, List.append_assoc]⟩
theorem GrB.wr (b : Bk) (p : Nat) (l : List Nat) : GrB b (wrB b p l) := by
  unfold wrB
  split
  · exact GrB.refl b
  · exact ⟨rfl, _, rfl⟩
theorem GrB.size {b b' : Bk} (h : GrB b b') : b.nh + b.es.length ≤ b'.nh + b'.es.length := by
  obtain ⟨t, ht⟩ := h.es
  rw [h.nh, ht, List.length_append]
  omega
theorem tt_ext {b b' : Bk} (h : GrB b b') {x : Nat} (hx : x < b.nh + b.es.length) : tt b' x = tt b x := by
  obtain ⟨t, ht⟩ := h.es
  unfold tt
  rw [h.nh, ht]
  unfold tns
  rw [List.foldl_append, List.getD_eq_getElem?_getD, List.getD_eq_getElem?_getD, tn_pre t _ x (by rw [tn_len, List.length_map, List.length_range]; exact hx)]
theorem tt_first {b : Bk} {x : Nat} (hx : x < b.nh) : tt b x = .leaf x := by
  unfold tt tns
  exact gdT (by rw [tn_pre _ _ x (by rw [List.length_map, List.length_range]; exact hx), List.getElem?_map, List.getElem?_range hx]; rfl)
structure BkG (b : Bk) : Prop where
  lt : ∀ (i : Nat) (e : Nat × List Nat), b.es[i]? = some e → ∀ x ∈ e.2, x < b.nh + i
  nd : b.es.Nodup
theorem tt_call {b : Bk} (hb : BkG b) {i : Nat} {e : Nat × List Nat} (hi : b.es[i]? = some e) : tt b (b.nh + i) = .node e.1 (e.2.map (tt b)) := by
  have hil := (List.getElem?_eq_some_iff.mp hi).1
  have e1 : b.es = b.es.take i ++ (e :: b.es.drop (i + 1)) := by
    obtain ⟨_, e2⟩ := List.getElem?_eq_some_iff.mp hi
    rw [← e2, ← List.drop_eq_getElem_cons hil, List.take_append_drop]
  have x0 : GrB ⟨b.nh, b.es.take i⟩ b := ⟨rfl, _, e1⟩
  have x1 : GrB ⟨b.nh, b.es.take i ++ [e]⟩ b := ⟨rfl, b.es.drop (i + 1), by rw [List.append_assoc]; exact e1⟩
  have tl : (b.es.take i).length = i := by rw [List.length_take]; omega
  rw [tt_ext x1 (by show b.nh + i < b.nh + (b.es.take i ++ [e]).length; rw [List.length_append, tl, List.length_singleton]; omega)]
  unfold tt
  show (tns b.nh (b.es.take i ++ [e])).getD (b.nh + i) (.leaf 0) = _
  unfold tns
  rw [List.foldl_append]
  show (tnStep (tns b.nh (b.es.take i)) e).getD (b.nh + i) (.leaf 0) = _
  unfold tnStep
  rw [List.getD_eq_getElem?_getD, List.getElem?_append_right (by rw [tns_len, tl]; omega), tns_len, tl, Nat.sub_self]
  show Tr.node e.1 _ = _
  congr 1
  refine List.map_congr_left fun x hx => ?_
  exact (tt_ext x0 (x := x) (by show x < b.nh + (b.es.take i).length; rw [tl]; exact hb.lt i e hi x hx)).symm
theorem map_inj {b : Bk} : ∀ (l m : List Nat), (∀ x ∈ l, ∀ y ∈ m, tt b x = tt b y → x = y) → l.map (tt b) = m.map (tt b) → l = m
  | [], [], _, _ => rfl
  | [], _ :: _, _, h => by cases h
  | _ :: _, [], _, h => by cases h
  | x :: l, y :: m, hi, h => by
    rw [List.map_cons, List.map_cons] at h
    injection h with h1 h2
    rw [hi x List.mem_cons_self y List.mem_cons_self h1, map_inj l m (fun x hx y hy => hi x (List.mem_cons_of_mem _ hx) y (List.mem_cons_of_mem _ hy)) h2]
theorem tt_inj {b : Bk} (hb : BkG b) : ∀ (x y : Nat), x < b.nh + b.es.length → y < b.nh + b.es.length → tt b x = tt b y → x = y := by
  intro x
  induction x using Nat.strongRecOn with
  | _ x ih =>
    intro y hx hy e
    by_cases fx : x < b.nh
    · rw [tt_first fx] at e
      by_cases fy : y < b.nh
      · rw [tt_first fy] at e
        injection e
      · have hi : b.es[y - b.nh]? = some b.es[y - b.nh] := List.getElem?_eq_getElem (by omega)
        rw [show y = b.nh + (y - b.nh) by omega, tt_call hb hi] at e
        cases e
    · have hi : b.es[x - b.nh]? = some b.es[x - b.nh] := List.getElem?_eq_getElem (by omega)
      have ex : x = b.nh + (x - b.nh) := by omega
      have e1 : tt b x = .node (b.es[x - b.nh]).1 ((b.es[x - b.nh]).2.map (tt b)) := by
        conv => lhs; rw [ex]
        exact tt_call hb hi
      rw [e1] at e
      by_cases fy : y < b.nh
      · rw [tt_first fy] at e
        cases e
      · have hj : b.es[y - b.nh]? = some b.es[y - b.nh] := List.getElem?_eq_getElem (by omega)
        have ey : y = b.nh + (y - b.nh) := by omega
        have e2 : tt b y = .node (b.es[y - b.nh]).1 ((b.es[y - b.nh]).2.map (tt b)) := by
          conv => lhs; rw [ey]
          exact tt_call hb hj
        rw [e2] at e
        injection e with g1 g2
        have g3 := map_inj _ _ (fun u hu v hv z => by
          have hu2 := hb.lt _ _ hi u hu
          have hv2 := hb.lt _ _ hj v hv
          exact ih u (by omega) v (by omega) (by omega) z) g2
        have g4 : b.es[x - b.nh] = b.es[y - b.nh] := Prod.ext g1 g3
        have := (List.getElem_inj hb.nd).mp g4
        omega
/-! ### trees beat by beat -/
def treeBeat (h : List (List Int)) (ah : List Tr) (p : Int) : Tr := .node p.toNat ((h.getD p.toNat []).map fun s => ah.getD s.toNat (.leaf 0))
def stepT (h : List (List Int)) (ah : List Tr) (beat : List Int) : List Tr := beat.foldl (fun B p => B.set p.toNat (treeBeat h ah p)) ah
def treesR (h hs : List (List Int)) : List Tr := hs.foldl (stepT h) ((List.range h.length).map Tr.leaf)
structure TSl (h : List (List Int)) (b : Bk) (sl : List Nat) (B : List Tr) : Prop where
  ls : sl.length = h.length
  lB : B.length = h.length
  at_ : ∀ q, q < h.length → sl.getD q 0 < b.nh + b.es.length ∧ tt b (sl.getD q 0) = B.getD q (.leaf 0)
theorem TSl.ext {h : List (List Int)} {b b' : Bk} {sl : List Nat} {B : List Tr} (s : TSl h b sl B) (x : GrB b b') : TSl h b' sl B := ⟨s.ls, s.lB, fun q hq => by
  obtain ⟨h1, h3⟩ := s.at_ q hq
  have := x.size
  exact ⟨by omega, (tt_ext x h1).trans h3⟩⟩
theorem setT_gd {α : Type} {l : List α} {i j : Nat} {x d : α} (hi : i < l.length) : (l.set i x).getD j d = if j = i then x else l.getD j d := by
  rw [List.getD_eq_getElem?_getD, List.getElem?_set]
  by_cases e : i = j
  · subst e
    rw [if_pos rfl, if_pos hi, if_pos rfl]
    rfl
  · rw [if_neg e, if_neg (fun z => e z.symm), List.getD_eq_getElem?_getD]
theorem stepP_G {h : List (List Int)} {b0 b : Bk} {sl fo : List Nat} {ah B : List Tr} (hH : ∀ r ∈ h, ∀ s ∈ r, 0 ≤ s ∧ s < (h.length : Int)) (k : BkG b) (x0 : GrB b0 b) (s0 : TSl h b0 sl ah) (s : TSl h b fo B) {p : Int} (hp0 : 0 ≤ p) (hp1 : p < (h.length : Int)) :
    BkG (stepP h sl (b, fo) p).1 ∧ GrB b0 (stepP h sl (b, fo) p).1 ∧ TSl h (stepP h sl (b, fo) p).1 (stepP h sl (b, fo) p).2 (B.set p.toNat (treeBeat h ah p)) := by
  have hpn : p.toNat < h.length := by omega
  have hrow : ∀ s ∈ h.getD p.toNat [], 0 ≤ s ∧ s < (h.length : Int) := fun s hs => by
    rw [gdT (List.getElem?_eq_getElem hpn)] at hs
    exact hH _ (List.getElem_mem hpn) s hs
  have sz := x0.size
  have hlk : ∀ x ∈ look h sl p.toNat, x < b.nh + b.es.length := fun x hx => by
    unfold look at hx
    obtain ⟨s, hs, rfl⟩ := List.mem_map.mp hx
    have hsr := hrow s hs
    have := (s0.at_ s.toNat (by omega)).1
    omega
  show BkG (wrB b p.toNat (look h sl p.toNat)) ∧ GrB b0 (wrB b p.toNat (look h sl p.toNat)) ∧ TSl h (wrB b p.toNat (look h sl p.toNat)) (fo.set p.toNat (wr (wrB b p.toNat (look h sl p.toNat)) p.toNat (look h sl p.toNat))) (B.set p.toNat (treeBeat h ah p))
  have xb := GrB.wr b p.toNat (look h sl p.toNat)
  have kb : BkG (wrB b p.toNat (look h sl p.toNat)) := by
    by_cases hin : (p.toNat, look h sl p.toNat) ∈ b.es
    · have e1 : wrB b p.toNat (look h sl p.toNat) = b := if_pos hin
      rw [e1]
      exact k
    · have e1 : wrB b p.toNat (look h sl p.toNat) = ⟨b.nh, b.es ++ [(p.toNat, look h sl p.toNat)]⟩ := if_neg hin
      rw [e1]
      refine ⟨fun i e hi x hx => ?_, ?_⟩
      · have hi2 : (b.es ++ [(p.toNat, look h sl p.toNat)])[i]? = some e := hi
        show x < b.nh + i
        by_cases hil : i < b.es.length
        · rw [List.getElem?_append_left hil] at hi2
          exact k.lt i e hi2 x hx
        · have hlt := (List.getElem?_eq_some_iff.mp hi2).1
          rw [List.length_append, List.length_singleton] at hlt
          have hie : i = b.es.length := by omega
          subst hie
          rw [List.getElem?_append_right (Nat.le_refl _), Nat.sub_self] at hi2
          cases hi2
          exact hlk x hx
      · show (b.es ++ [(p.toNat, look h sl p.toNat)]).Nodup
        rw [List.nodup_append]
        refine ⟨k.nd, List.pairwise_singleton _ _, fun x hx y hy z => hin ?_⟩
        rw [List.mem_singleton.mp hy] at z
        rw [← z]
        exact hx
  refine ⟨kb, x0.trans xb, ?_⟩
  have hmem := wrB_mem b p.toNat (look h sl p.toNat)
  have hget : (wrB b p.toNat (look h sl p.toNat)).es[(wrB b p.toNat (look h sl p.toNat)).es.idxOf (p.toNat, look h sl p.toNat)]? = some (p.toNat, look h sl p.toNat) := by
    rw [List.getElem?_eq_getElem (List.idxOf_lt_length_of_mem hmem), List.getElem_idxOf]
  have hlt := wr_lt b p.toNat (look h sl p.toNat)
  have hnew : tt (wrB b p.toNat (look h sl p.toNat)) (wr (wrB b p.toNat (look h sl p.toNat)) p.toNat (look h sl p.toNat)) = treeBeat h ah p := by
    unfold wr
    rw [tt_call kb hget]
    unfold treeBeat
    congr 1
    show (look h sl p.toNat).map _ = _
    generalize hgb : wrB b p.toNat (look h sl p.toNat) = b' at xb
    unfold look
    rw [List.map_map]
    refine List.map_congr_left fun s hs => ?_
    have hsr := hrow s hs
    obtain ⟨a1, a3⟩ := s0.at_ s.toNat (by omega)
    show tt b' (sl.getD s.toNat 0) = _
    rw [tt_ext xb (by omega), tt_ext x0 a1, a3]
  have s' := s.ext xb
  refine ⟨by rw [List.length_set]; exact s.ls, by rw [List.length_set]; exact s.lB, fun q hq => ?_⟩
  rw [setT_gd (by rw [s.ls]; exact hpn), setT_gd (by rw [s.lB]; exact hpn)]
  by_cases e : q = p.toNat
  · rw [if_pos e, if_pos e]
    exact ⟨hlt, hnew⟩
  · rw [if_neg e, if_neg e]
    exact s'.at_ q hq
theorem stepB_G {h : List (List Int)} {b0 : Bk} {sl : List Nat} {ah : List Tr} (hH : ∀ r ∈ h, ∀ s ∈ r, 0 ≤ s ∧ s < (h.length : Int)) (s0 : TSl h b0 sl ah) : ∀ (beat : List Int) (b : Bk) (fo : List Nat) (B : List Tr), (∀ p ∈ beat, 0 ≤ p ∧ p < (h.length : Int)) → BkG b → GrB b0 b → TSl h b fo B →
    BkG (beat.foldl (stepP h sl) (b, fo)).1 ∧ GrB b0 (beat.foldl (stepP h sl) (b, fo)).1 ∧ TSl h (beat.foldl (stepP h sl) (b, fo)).1 (beat.foldl (stepP h sl) (b, fo)).2 (beat.foldl (fun B p => B.set p.toNat (treeBeat h ah p)) B)
  | [], b, fo, B, _, k, x, s => ⟨k, x, s⟩
  | p :: beat, b, fo, B, hp, k, x, s => by
    obtain ⟨hp0, hp1⟩ := hp p List.mem_cons_self
    obtain ⟨q1, q2, q3⟩ := stepP_G hH k x s0 s hp0 hp1
    exact stepB_G hH s0 beat _ _ _ (fun y hy => hp y (List.mem_cons_of_mem _ hy)) q1 q2 q3
theorem runR_G {h : List (List Int)} (hH : ∀ r ∈ h, ∀ s ∈ r, 0 ≤ s ∧ s < (h.length : Int)) : ∀ (hs : List (List Int)) (b : Bk) (sl : List Nat) (B : List Tr), (∀ r ∈ hs, ∀ p ∈ r, 0 ≤ p ∧ p < (h.length : Int)) → BkG b → TSl h b sl B →
    BkG (runR h b sl hs).1 ∧ GrB b (runR h b sl hs).1 ∧ TSl h (runR h b sl hs).1 ((runR h b sl hs).2.getLast (runR_ne _ _ _ _)) (hs.foldl (stepT h) B)
  | [], b, sl, B, _, k, s => ⟨k, GrB.refl b, s⟩
  | r :: hs, b, sl, B, hr, k, s => by
    obtain ⟨q1, q2, q3⟩ := stepB_G hH s r b sl B (hr r List.mem_cons_self) k (GrB.refl b) s
    obtain ⟨i1, i2, i3⟩ := runR_G hH hs (stepB h b sl r).1 (stepB h b sl r).2 (stepT h B r) (fun x hx => hr x (List.mem_cons_of_mem _ hx)) q1 q3
    have e : (runR h b sl (r :: hs)).2.getLast (runR_ne _ _ _ _) = (runR h (stepB h b sl r).1 (stepB h b sl r).2 hs).2.getLast (runR_ne _ _ _ _) := List.getLast_cons (runR_ne _ _ _ _)
    rw [e]
    exact ⟨i1, q2.trans i2, i3⟩
theorem range_T {h : List (List Int)} {b : Bk} (hn : b.nh = h.length) : TSl h b (List.range h.length) ((List.range h.length).map Tr.leaf) := ⟨List.length_range, by rw [List.length_map, List.length_range], fun q hq => by
  have e : (List.range h.length).getD q 0 = q := gdT (List.getElem?_range hq)
  have e2 : ((List.range h.length).map Tr.leaf).getD q (.leaf 0) = .leaf q := gdT (by rw [List.getElem?_map, List.getElem?_range hq]; rfl)
  rw [e, e2]
  exact ⟨by omega, tt_first (by omega)⟩⟩
end K25

set_option Elab.async false
set_option linter.all false
set_option autoImplicit false
set_option maxRecDepth 100000
namespace K25
open PySem PySem.Spec PyProof.Rows L2 DL
/-! ### trees rise -/
mutual
inductive TLe : Tr → Tr → Prop
  | leaf (p : Nat) : TLe (.leaf p) (.leaf p)
  | up (p : Nat) (ts : List Tr) : TLe (.leaf p) (.node p ts)
  | node {p : Nat} {ts us : List Tr} : TLes ts us → TLe (.node p ts) (.node p us)
inductive TLes : List Tr → List Tr → Prop
  | nil : TLes [] []
  | cons {t u : Tr} {ts us : List Tr} : TLe t u → TLes ts us → TLes (t :: ts) (u :: us)
end
mutual
theorem TLe.refl : ∀ t : Tr, TLe t t
  | .leaf p => .leaf p
  | .node p ts => .node (TLes.refl ts)
theorem TLes.refl : ∀ ts : List Tr, TLes ts ts
  | [] => .nil
  | t :: ts => .cons (TLe.refl t) (TLes.refl ts)
end
mutual
theorem TLe.anti : ∀ {t u : Tr}, TLe t u → TLe u t → t = u
  | _, _, .leaf p, _ => rfl
  | _, _, .up p ts, h => nomatch h
  | _, _, .node h, .node g => by rw [TLes.anti h g]
theorem TLes.anti : ∀ {t u : List Tr}, TLes t u → TLes u t → t = u
  | _, _, .nil, _ => rfl
  | _, _, .cons h t, .cons g u => by rw [TLe.anti h g, TLes.anti t u]
end
mutual
theorem TLe.trans : ∀ {t u v : Tr}, TLe t u → TLe u v → TLe t v
  | _, _, _, .leaf p, h => h
  | _, _, _, .up p ts, .node h => .up p _
  | _, _, _, .node h, .node g => .node (TLes.trans h g)
theorem TLes.trans : ∀ {t u v : List Tr}, TLes t u → TLes u v → TLes t v
  | _, _, _, .nil, .nil => .nil
  | _, _, _, .cons h t, .cons g u => .cons (TLe.trans h g) (TLes.trans t u)
end
theorem TLes.map {f g : Int → Tr} : ∀ {l : List Int}, (∀ s ∈ l, TLe (f s) (g s)) → TLes (l.map f) (l.map g)
  | [], _ => .nil
  | s :: l, h => .cons (h s List.mem_cons_self) (TLes.map fun x hx => h x (List.mem_cons_of_mem _ hx))
abbrev gT (B : List Tr) (q : Nat) : Tr := B.getD q (.leaf 0)
def LeB (n : Nat) (B C : List Tr) : Prop := ∀ q, q < n → TLe (gT B q) (gT C q)
/-- the rows of trees -/
def rowsT (h : List (List Int)) : List Tr → List (List Int) → List (List Tr)
  | B, [] => [B]
  | B, r :: hs => B :: rowsT h (stepT h B r) hs
def leaves (h : List (List Int)) : List Tr := (List.range h.length).map Tr.leaf
structure RsT (h : List (List Int)) (B : List Tr) : Prop where
  ln : B.length = h.length
  le : ∀ q : Nat, q < h.length → TLe (gT B q) (treeBeat h B (q : Int))
section
variable {h : List (List Int)} (hH : ∀ r ∈ h, ∀ s ∈ r, 0 ≤ s ∧ s < (h.length : Int))
include hH
theorem hall_row {p : Nat} (hp : p < h.length) : ∀ s ∈ h.getD p [], 0 ≤ s ∧ s < (h.length : Int) := fun s hs => by
  rw [gdT (List.getElem?_eq_getElem hp)] at hs
  exact hH _ (List.getElem_mem hp) s hs
theorem beat_le {B C : List Tr} (e : LeB h.length B C) {q : Nat} (hq : q < h.length) : TLe (treeBeat h B (q : Int)) (treeBeat h C (q : Int)) := by
  unfold treeBeat
  refine .node (TLes.map fun s hs => ?_)
  have := hall_row hH hq s hs
  exact e s.toNat (by omega)
omit hH in
theorem stepT_gd (ah : List Tr) {q : Nat} (hq : q < h.length) : ∀ (beat : List Int) (B : List Tr), B.length = h.length → (∀ p ∈ beat, 0 ≤ p ∧ p < (h.length : Int)) →
    gT (beat.foldl (fun B p => B.set p.toNat (treeBeat h ah p)) B) q = if (q : Int) ∈ beat then treeBeat h ah (q : Int) else gT B q
  | [], B, _, _ => by simp
  | p :: beat, B, hB, hp => by
    have hp0 := hp p List.mem_cons_self
    rw [List.foldl_cons, stepT_gd ah hq beat _ (by rw [List.length_set]; exact hB) fun x hx => hp x (List.mem_cons_of_mem _ hx)]
    by_cases c : (q : Int) ∈ beat
    · rw [if_pos c, if_pos (List.mem_cons_of_mem _ c)]
    · rw [if_neg c]
      unfold gT
      rw [setT_gd (by omega)]
      by_cases e : q = p.toNat
      · have e2 : (q : Int) = p := by omega
        rw [if_pos e, if_pos (by rw [e2]; exact List.mem_cons_self), e2]
      · rw [if_neg e, if_neg (fun z => (List.mem_cons.mp z).elim (fun z => e (by omega)) c)]
omit hH in
theorem stepT_len (ah : List Tr) : ∀ (beat : List Int) (B : List Tr), (beat.foldl (fun B p => B.set p.toNat (treeBeat h ah p)) B).length = B.length
  | [], B => rfl
  | p :: beat, B => by rw [List.foldl_cons, stepT_len ah beat, List.length_set]
theorem step_le {B : List Tr} (k : RsT h B) {r : List Int} (hr : ∀ p ∈ r, 0 ≤ p ∧ p < (h.length : Int)) : LeB h.length B (stepT h B r) ∧ RsT h (stepT h B r) := by
  have g : ∀ q, q < h.length → gT (stepT h B r) q = if (q : Int) ∈ r then treeBeat h B (q : Int) else gT B q := fun q hq => stepT_gd B hq r B k.ln hr
  have l : LeB h.length B (stepT h B r) := fun q hq => by
    rw [g q hq]
    split
    · exact k.le q hq
    · exact TLe.refl _
  refine ⟨l, (stepT_len B r B).trans k.ln, fun q hq => ?_⟩
  have b := beat_le hH l hq
  rw [g q hq]
  split
  · exact b
  · exact (k.le q hq).trans b
theorem rows_le : ∀ (hs : List (List Int)) {B : List Tr}, RsT h B → (∀ r ∈ hs, ∀ p ∈ r, 0 ≤ p ∧ p < (h.length : Int)) → (∀ C ∈ rowsT h B hs, LeB h.length B C) ∧ (rowsT h B hs).Pairwise (LeB h.length)
  | [], B, k, _ => ⟨fun C hC => by rw [List.mem_singleton.mp hC]; exact fun q _ => TLe.refl _, List.pairwise_singleton _ _⟩
  | r :: hs, B, k, hr => by
    obtain ⟨l, k2⟩ := step_le hH k (hr r List.mem_cons_self)
    obtain ⟨i1, i2⟩ := rows_le hs k2 fun x hx => hr x (List.mem_cons_of_mem _ hx)
    have m : ∀ C ∈ rowsT h (stepT h B r) hs, LeB h.length B C := fun C hC q hq => (l q hq).trans (i1 C hC q hq)
    refine ⟨fun C hC => ?_, List.pairwise_cons.mpr ⟨m, i2⟩⟩
    rcases List.mem_cons.mp hC with rfl | hC
    · exact fun q _ => TLe.refl _
    · exact m C hC
omit hH in
theorem leaves_rs : RsT h (leaves h) := ⟨by unfold leaves; rw [List.length_map, List.length_range], fun q hq => by
  have e : gT (leaves h) q = .leaf q := gdT (by unfold leaves; rw [List.getElem?_map, List.getElem?_range hq]; rfl)
  rw [e]
  show TLe (.leaf q) (.node (q : Int).toNat _)
  rw [Int.toNat_natCast]
  exact .up q _⟩
end
/-- a person's trees, moment by moment -/
def colT (h hs : List (List Int)) (p : Nat) : List Tr := (rowsT h (leaves h) hs).map fun B => gT B p
theorem colT_le {h hs : List (List Int)} (hH : ∀ r ∈ h, ∀ s ∈ r, 0 ≤ s ∧ s < (h.length : Int)) (hr : ∀ r ∈ hs, ∀ p ∈ r, 0 ≤ p ∧ p < (h.length : Int)) {p : Nat} (hp : p < h.length) : (colT h hs p).Pairwise TLe :=
  List.pairwise_map.mpr ((rows_le hH hs leaves_rs hr).2.imp fun {a b} z => z p hp)
/-! ### first comings -/
noncomputable instance : DecidableEq Tr := fun _ _ => Classical.propDecidable _
def ddA {α : Type} [DecidableEq α] : List α → List α → List α
  | acc, [] => acc
  | acc, x :: xs => if x ∈ acc then ddA acc xs else ddA (acc ++ [x]) xs
def dd {α : Type} [DecidableEq α] (xs : List α) : List α := ddA [] xs
section
variable {α β : Type} [DecidableEq α] [DecidableEq β]
theorem ddA_nodup : ∀ {xs acc : List α}, acc.Nodup → (ddA acc xs).Nodup
  | [], acc, h => h
  | x :: xs, acc, h => by
    unfold ddA
    split
    · exact ddA_nodup h
    · rename_i z
      refine ddA_nodup ?_
      rw [List.nodup_append]
      exact ⟨h, List.pairwise_singleton _ _, fun a ha b hb e => z (by rw [List.mem_singleton.mp hb] at e; rw [← e]; exact ha)⟩
theorem dd_nodup (xs : List α) : (dd xs).Nodup := ddA_nodup List.nodup_nil
theorem ddA_sub : ∀ (xs acc : List α), ∃ ys, ddA acc xs = acc ++ ys ∧ ys.Sublist xs
  | [], acc => ⟨[], by unfold ddA; rw [List.append_nil], List.Sublist.refl _⟩
  | x :: xs, acc => by
    unfold ddA
    split
    · obtain ⟨ys, e, s⟩ := ddA_sub xs acc
      exact ⟨ys, e, s.cons _⟩
    · obtain ⟨ys, e, s⟩ := ddA_sub xs (acc ++ [x])
      exact ⟨x :: ys, by rw [e, List.append_assoc]; rfl, s.cons₂ _⟩
theorem dd_sub (xs : List α) : (dd xs).Sublist xs := by
  obtain ⟨ys, e, s⟩ := ddA_sub xs []
  unfold dd
  rw [e]
  exact s
theorem ddA_app : ∀ (xs ys acc : List α), ddA acc (xs ++ ys) = ddA (ddA acc xs) ys
  | [], _, _ => rfl
  | x :: xs, ys, acc => by
    rw [List.cons_append]
    have e1 : ddA acc (x :: (xs ++ ys)) = if x ∈ acc then ddA acc (xs ++ ys) else ddA (acc ++ [x]) (xs ++ ys) := rfl
    have e2 : ddA acc (x :: xs) = if x ∈ acc then ddA acc xs else ddA (acc ++ [x]) xs := rfl
    rw [e1, e2]
    split <;> exact ddA_app xs ys _
theorem dd_pre (xs ys : List α) : ∃ zs, dd (xs ++ ys) = dd xs ++ zs := by
  unfold dd
  rw [ddA_app]
  obtain ⟨zs, e, _⟩ := ddA_sub ys (ddA [] xs)
  exact ⟨zs, e⟩
theorem dd_cons (x : α) (xs : List α) : ∃ zs, dd (x :: xs) = x :: zs := dd_pre [x] xs
theorem dd_snoc (xs : List α) (x : α) : dd (xs ++ [x]) = if x ∈ dd xs then dd xs else dd xs ++ [x] := by
  unfold dd
  rw [ddA_app]
  rfl
theorem ddA_map {f : α → β} : ∀ (xs acc : List α), (∀ x ∈ acc ++ xs, ∀ y ∈ acc ++ xs, f x = f y → x = y) → ddA (acc.map f) (xs.map f) = (ddA acc xs).map f
  | [], _, _ => rfl
  | x :: xs, acc, h => by
    have hx : f x ∈ acc.map f ↔ x ∈ acc := ⟨fun z => by
      obtain ⟨y, hy, e⟩ := List.mem_map.mp z
      rw [← h y (List.mem_append_left _ hy) x (List.mem_append_right _ List.mem_cons_self) e]
      exact hy, fun z => List.mem_map.mpr ⟨x, z, rfl⟩⟩
    rw [List.map_cons]
    unfold ddA
    by_cases c : x ∈ acc
    · rw [if_pos c, if_pos (hx.mpr c)]
      have up : ∀ u ∈ acc ++ xs, u ∈ acc ++ x :: xs := fun u hu => (List.mem_append.mp hu).elim (fun z => List.mem_append_left _ z) fun z => List.mem_append_right _ (List.mem_cons_of_mem _ z)
      exact ddA_map xs acc fun u hu v hv => h u (up u hu) v (up v hv)
    · rw [if_neg c, if_neg (fun z => c (hx.mp z))]
      have e : acc.map f ++ [f x] = (acc ++ [x]).map f := by rw [List.map_append]; rfl
      rw [e]
      exact ddA_map xs (acc ++ [x]) fun u hu v hv => h u (by rw [List.append_assoc] at hu; exact hu) v (by rw [List.append_assoc] at hv; exact hv)
theorem dd_map {f : α → β} (xs : List α) (h : ∀ x ∈ xs, ∀ y ∈ xs, f x = f y → x = y) : dd (xs.map f) = (dd xs).map f := ddA_map xs [] h
theorem mem_dd {x : α} {xs : List α} (h : x ∈ dd xs) : x ∈ xs := (dd_sub xs).subset h
/-! ### places in common -/
def prs (A B : List α) : List (Nat × Nat) := (A.filter fun x => decide (x ∈ B)).map fun x => (A.idxOf x, B.idxOf x)
theorem idx_map {f : α → β} : ∀ {l : List α} {x : α}, (∀ y ∈ l, f y = f x → y = x) → (l.map f).idxOf (f x) = l.idxOf x
  | [], _, _ => rfl
  | y :: l, x, h => by
    rw [List.map_cons, List.idxOf_cons, List.idxOf_cons, idx_map fun z hz => h z (List.mem_cons_of_mem _ hz)]
    by_cases e : y = x
    · subst e
      simp
    · have e2 : ¬ f y = f x := fun z => e (h y List.mem_cons_self z)
      have b1 : (y == x) = false := by simpa using e
      have b2 : (f y == f x) = false := by simpa using e2
      rw [b1, b2]
theorem prs_map {f : α → β} {A B : List α} (h : ∀ x ∈ A ++ B, ∀ y ∈ A ++ B, f x = f y → x = y) : prs (A.map f) (B.map f) = prs A B := by
  unfold prs
  rw [List.filter_map, List.map_map]
  have e : (A.filter ((fun x => decide (x ∈ B.map f)) ∘ f)) = A.filter fun x => decide (x ∈ B) := List.filter_congr fun x hx => by
    show decide (f x ∈ B.map f) = _
    refine decide_eq_decide.mpr ⟨fun z => ?_, fun z => List.mem_map.mpr ⟨x, z, rfl⟩⟩
    obtain ⟨y, hy, e⟩ := List.mem_map.mp z
    rw [← h y (List.mem_append_right _ hy) x (List.mem_append_left _ hx) e]
    exact hy
  rw [e]
  refine List.map_congr_left fun x hx => ?_
  have hA := (List.mem_filter.mp hx).1
  show ((A.map f).idxOf (f x), (B.map f).idxOf (f x)) = _
  rw [idx_map fun y hy => h y (List.mem_append_left _ hy) x (List.mem_append_left _ hA), idx_map fun y hy => h y (List.mem_append_right _ hy) x (List.mem_append_left _ hA)]
theorem prs_mem {A B : List α} {q : Nat × Nat} : q ∈ prs A B ↔ ∃ x, x ∈ A ∧ x ∈ B ∧ q = (A.idxOf x, B.idxOf x) := by
  unfold prs
  rw [List.mem_map]
  constructor
  · rintro ⟨x, hx, rfl⟩
    rw [List.mem_filter, decide_eq_true_eq] at hx
    exact ⟨x, hx.1, hx.2, rfl⟩
  · rintro ⟨x, h1, h2, rfl⟩
    exact ⟨x, List.mem_filter.mpr ⟨h1, decide_eq_true h2⟩, rfl⟩
theorem idx_get {A : List α} (n : A.Nodup) {i : Nat} (h : i < A.length) : A.idxOf A[i] = i := by
  have hm : A[i] ∈ A := List.getElem_mem h
  have hl := List.idxOf_lt_length_of_mem hm
  have e : A[A.idxOf A[i]] = A[i] := List.getElem_idxOf hl
  exact (List.getElem_inj n).mp e
theorem idx_pw {A : List α} (n : A.Nodup) : A.Pairwise fun x y => A.idxOf x < A.idxOf y := List.pairwise_iff_getElem.mpr fun i j hi hj hij => by
  rw [idx_get n hi, idx_get n hj]
  exact hij
theorem idx_inj {A : List α} {x y : α} (hx : x ∈ A) (hy : y ∈ A) (e : A.idxOf x = A.idxOf y) : x = y := by
  have h1 : A[A.idxOf x]'(List.idxOf_lt_length_of_mem hx) = x := List.getElem_idxOf _
  have h2 : A[A.idxOf y]'(List.idxOf_lt_length_of_mem hy) = y := List.getElem_idxOf _
  rw [← h1, ← h2]
  congr 1
theorem prs_fst {A B : List α} (n : A.Nodup) : (prs A B).Pairwise fun a b => a.1 < b.1 := List.pairwise_map.mpr (((idx_pw n).sublist List.filter_sublist).imp fun {a b} z => z)
theorem prs_pw {R : α → α → Prop} (anti : ∀ {x y}, R x y → R y x → x = y) {A B : List α} (nA : A.Nodup) (pA : A.Pairwise R) (pB : B.Pairwise R) : (prs A B).Pairwise fun a b => a.2 < b.2 := by
  refine List.pairwise_map.mpr ?_
  have hp : (A.filter fun x => decide (x ∈ B)).Pairwise fun x y => x ≠ y ∧ R x y := (nA.and pA).sublist List.filter_sublist
  refine List.Pairwise.imp_of_mem ?_ hp
  rintro x y hx hy ⟨hne, hR⟩
  rw [List.mem_filter, decide_eq_true_eq] at hx hy
  have lx := List.idxOf_lt_length_of_mem hx.2
  have ly := List.idxOf_lt_length_of_mem hy.2
  rcases Nat.lt_trichotomy (B.idxOf x) (B.idxOf y) with c | c | c
  · exact c
  · exact absurd (idx_inj hx.2 hy.2 c) hne
  · have := List.pairwise_iff_getElem.mp pB _ _ ly lx c
    rw [List.getElem_idxOf, List.getElem_idxOf] at this
    exact absurd (anti hR this) hne
theorem pw_uniq : ∀ {L M : List (Nat × Nat)}, L.Pairwise (fun a b => a.1 < b.1) → M.Pairwise (fun a b => a.1 < b.1) → (∀ q, q ∈ L ↔ q ∈ M) → L = M
  | [], [], _, _, _ => rfl
  | [], b :: M, _, _, h => absurd ((h b).mpr List.mem_cons_self) (fun z => nomatch z)
  | a :: L, [], _, _, h => absurd ((h a).mp List.mem_cons_self) (fun z => nomatch z)
  | a :: L, b :: M, hL, hM, h => by
    obtain ⟨a1, a2⟩ := List.pairwise_cons.mp hL
    obtain ⟨b1, b2⟩ := List.pairwise_cons.mp hM
    have e : a = b := by
      rcases List.mem_cons.mp ((h a).mp List.mem_cons_self) with z | z
      · exact z
      rcases List.mem_cons.mp ((h b).mpr List.mem_cons_self) with y | y
      · exact y.symm
      have := b1 a z
      have := a1 b y
      omega
    subst e
    rw [pw_uniq a2 b2 fun q => ⟨fun z => ?_, fun z => ?_⟩]
    · rcases List.mem_cons.mp ((h q).mp (List.mem_cons_of_mem _ z)) with y | y
      · have := a1 q z
        rw [y] at this
        omega
      · exact y
    · rcases List.mem_cons.mp ((h q).mpr (List.mem_cons_of_mem _ z)) with y | y
      · have := b1 q z
        rw [y] at this
        omega
      · exact y
theorem prs_swap {R : α → α → Prop} (anti : ∀ {x y}, R x y → R y x → x = y) {A B : List α} (nA : A.Nodup) (nB : B.Nodup) (pA : A.Pairwise R) (pB : B.Pairwise R) : prs B A = (prs A B).map Prod.swap := by
  refine pw_uniq (prs_fst nB) (List.pairwise_map.mpr (prs_pw anti nA pA pB)) fun q => ?_
  rw [prs_mem, List.mem_map]
  constructor
  · rintro ⟨x, h1, h2, rfl⟩
    exact ⟨_, prs_mem.mpr ⟨x, h2, h1, rfl⟩, rfl⟩
  · rintro ⟨r, hr, rfl⟩
    obtain ⟨x, h1, h2, rfl⟩ := prs_mem.mp hr
    exact ⟨x, h2, h1, rfl⟩
/-- the places of a beginning -/
theorem prs_pre {A Z : List α} (n : (A ++ Z).Nodup) : prs A (A ++ Z) = (List.range A.length).map fun i => (i, i) := by
  have nA : A.Nodup := (List.nodup_append.mp n).1
  refine pw_uniq (prs_fst nA) (List.pairwise_map.mpr (List.pairwise_lt_range.imp fun {a b} z => z)) fun q => ?_
  have ix : ∀ x ∈ A, (A ++ Z).idxOf x = A.idxOf x := fun x hx => by rw [List.idxOf_append, if_pos hx]
  rw [prs_mem, List.mem_map]
  constructor
  · rintro ⟨x, h1, h2, rfl⟩
    exact ⟨A.idxOf x, List.mem_range.mpr (List.idxOf_lt_length_of_mem h1), by rw [ix x h1]⟩
  · rintro ⟨i, hi, rfl⟩
    have hi := List.mem_range.mp hi
    refine ⟨A[i], List.getElem_mem hi, List.mem_append_left _ (List.getElem_mem hi), ?_⟩
    rw [ix _ (List.getElem_mem hi), idx_get nA hi]
theorem prs_self {A : List α} (n : A.Nodup) : prs A A = (List.range A.length).map fun i => (i, i) := by
  have := prs_pre (A := A) (Z := []) (by rw [List.append_nil]; exact n)
  rwa [List.append_nil] at this
theorem prs_head {x : α} (A B : List α) : ∃ M, prs (x :: A) (x :: B) = (0, 0) :: M := by
  unfold prs
  rw [List.filter_cons, if_pos (decide_eq_true List.mem_cons_self), List.map_cons, List.idxOf_cons_self, List.idxOf_cons_self]
  exact ⟨_, rfl⟩
end
/-! ### writings and trees, moment by moment -/
theorem runR_col {h : List (List Int)} (hH : ∀ r ∈ h, ∀ s ∈ r, 0 ≤ s ∧ s < (h.length : Int)) {p : Nat} (hp : p < h.length) : ∀ (hs : List (List Int)) (b : Bk) (sl : List Nat) (B : List Tr), (∀ r ∈ hs, ∀ p ∈ r, 0 ≤ p ∧ p < (h.length : Int)) → BkG b → TSl h b sl B →
    BkG (runR h b sl hs).1 ∧ GrB b (runR h b sl hs).1 ∧ (runR h b sl hs).2.map (fun r => tt (runR h b sl hs).1 (r.getD p 0)) = (rowsT h B hs).map (fun B => gT B p) ∧ (∀ r ∈ (runR h b sl hs).2, r.getD p 0 < (runR h b sl hs).1.nh + (runR h b sl hs).1.es.length)
  | [], b, sl, B, _, k, s => ⟨k, GrB.refl b, by
      show [tt b (sl.getD p 0)] = [gT B p]
      rw [(s.at_ p hp).2], fun r hr => by
      rw [show r = sl from List.mem_singleton.mp hr]
      exact (s.at_ p hp).1⟩
  | r :: hs, b, sl, B, hr, k, s => by
    obtain ⟨q1, q2, q3⟩ := stepB_G hH s r b sl B (hr r List.mem_cons_self) k (GrB.refl b) s
    obtain ⟨i1, i2, i3, i4⟩ := runR_col hH hp hs (stepB h b sl r).1 (stepB h b sl r).2 (stepT h B r) (fun x hx => hr x (List.mem_cons_of_mem _ hx)) q1 q3
    obtain ⟨a1, a2⟩ := s.at_ p hp
    have gg : GrB b (runR h (stepB h b sl r).1 (stepB h b sl r).2 hs).1 := q2.trans i2
    have sz := gg.size
    refine ⟨i1, gg, ?_, fun x hx => ?_⟩
    · show tt (runR h (stepB h b sl r).1 (stepB h b sl r).2 hs).1 (sl.getD p 0) :: _ = gT B p :: _
      rw [tt_ext gg a1, a2]
      exact congrArg _ i3
    · rcases List.mem_cons.mp hx with rfl | hx
      · show x.getD p 0 < (runR h (stepB h b x r).1 (stepB h b x r).2 hs).1.nh + _
        exact Nat.lt_of_lt_of_le a1 sz
      · exact i4 x hx
theorem runR_ln (h : List (List Int)) : ∀ (hs : List (List Int)) (b : Bk) (sl : List Nat), (runR h b sl hs).2.length = hs.length + 1
  | [], b, sl => rfl
  | r :: hs, b, sl => by
    show (sl :: (runR h (stepB h b sl r).1 (stepB h b sl r).2 hs).2).length = _
    rw [List.length_cons, runR_ln h hs]
    rfl
/-- the trees that a person's slate has been, as they came -/
noncomputable def tds (h hs : List (List Int)) (p : Nat) : List Tr := dd (colT h hs p)
def colN (R : List (List Nat)) (p : Nat) : List Nat := R.map fun r => r.getD p 0
/-- two histories by one book -/
theorem two_cols {h o1 o2 : List (List Int)} (hH : HallOk h) (h1 : HistOk h o1) (h2 : HistOk h o2) {p : Nat} (hp : p < h.length) {b0 : Bk} (hb : BkG b0) (hn : b0.nh = h.length) :
    ∃ f : Nat → Tr, (∀ x ∈ colN (runR h b0 (List.range h.length) o1).2 p ++ colN (runR h (endB h b0 o1) (List.range h.length) o2).2 p, ∀ y ∈ colN (runR h b0 (List.range h.length) o1).2 p ++ colN (runR h (endB h b0 o1) (List.range h.length) o2).2 p, f x = f y → x = y) ∧
      (colN (runR h b0 (List.range h.length) o1).2 p).map f = colT h o1 p ∧ (colN (runR h (endB h b0 o1) (List.range h.length) o2).2 p).map f = colT h o2 p ∧ BkG (endB h b0 o1) := by
  have hH0 : ∀ r ∈ h, ∀ s ∈ r, 0 ≤ s ∧ s < (h.length : Int) := fun r hr => (hH.1 r hr).2
  obtain ⟨a1, a2, a3, a4⟩ := runR_col hH0 hp o1 b0 _ _ h1.1 hb (range_T hn)
  have a1' : BkG (endB h b0 o1) := a1
  have a2' : GrB b0 (endB h b0 o1) := a2
  obtain ⟨c1, c2, c3, c4⟩ := runR_col hH0 hp o2 (endB h b0 o1) _ _ h2.1 a1' (range_T (a2'.nh.trans hn))
  have lt : ∀ x ∈ colN (runR h b0 (List.range h.length) o1).2 p ++ colN (runR h (endB h b0 o1) (List.range h.length) o2).2 p, x < (runR h (endB h b0 o1) (List.range h.length) o2).1.nh + (runR h (endB h b0 o1) (List.range h.length) o2).1.es.length := fun x hx => by
    rcases List.mem_append.mp hx with hx | hx
    · obtain ⟨r, hr, rfl⟩ := List.mem_map.mp hx
      exact Nat.lt_of_lt_of_le (a4 r hr) c2.size
    · obtain ⟨r, hr, rfl⟩ := List.mem_map.mp hx
      exact c4 r hr
  refine ⟨tt (runR h (endB h b0 o1) (List.range h.length) o2).1, fun x hx y hy e => tt_inj c1 x y (lt x hx) (lt y hy) e, ?_, ?_, a1'⟩
  · rw [← show _ = colT h o1 p from a3]
    unfold colN
    rw [List.map_map]
    exact List.map_congr_left fun r hr => tt_ext c2 (a4 r hr)
  · unfold colN
    rw [List.map_map]
    exact c3
theorem bkg0 (n : Nat) : BkG ⟨n, []⟩ := ⟨fun i e hi => (by cases hi), List.nodup_nil⟩
theorem two_prs {h o1 o2 : List (List Int)} (hH : HallOk h) (h1 : HistOk h o1) (h2 : HistOk h o2) {p : Nat} (hp : p < h.length) {b0 : Bk} (hb : BkG b0) (hn : b0.nh = h.length) :
    prs (dd (colN (runR h b0 (List.range h.length) o1).2 p)) (dd (colN (runR h (endB h b0 o1) (List.range h.length) o2).2 p)) = prs (tds h o1 p) (tds h o2 p) ∧
      (dd (colN (runR h b0 (List.range h.length) o1).2 p)).length = (tds h o1 p).length ∧ (dd (colN (runR h (endB h b0 o1) (List.range h.length) o2).2 p)).length = (tds h o2 p).length := by
  obtain ⟨f, inj, e1, e2, _⟩ := two_cols hH h1 h2 hp hb hn
  have m1 : tds h o1 p = (dd (colN (runR h b0 (List.range h.length) o1).2 p)).map f := by
    unfold tds
    rw [← e1]
    exact dd_map _ fun x hx y hy => inj x (List.mem_append_left _ hx) y (List.mem_append_left _ hy)
  have m2 : tds h o2 p = (dd (colN (runR h (endB h b0 o1) (List.range h.length) o2).2 p)).map f := by
    unfold tds
    rw [← e2]
    exact dd_map _ fun x hx y hy => inj x (List.mem_append_right _ hx) y (List.mem_append_right _ hy)
  refine ⟨?_, by rw [m1, List.length_map], by rw [m2, List.length_map]⟩
  rw [m1, m2]
  have up : ∀ x ∈ dd (colN (runR h b0 (List.range h.length) o1).2 p) ++ dd (colN (runR h (endB h b0 o1) (List.range h.length) o2).2 p), x ∈ colN (runR h b0 (List.range h.length) o1).2 p ++ colN (runR h (endB h b0 o1) (List.range h.length) o2).2 p := fun x hx =>
    (List.mem_append.mp hx).elim (fun z => List.mem_append_left _ (mem_dd z)) fun z => List.mem_append_right _ (mem_dd z)
  exact (prs_map fun x hx y hy => inj x (up x hx) y (up y hy)).symm
theorem tds_pw {h o : List (List Int)} (hH : HallOk h) (h1 : HistOk h o) {p : Nat} (hp : p < h.length) : (tds h o p).Pairwise TLe := (colT_le (fun r hr => (hH.1 r hr).2) h1.1 hp).sublist (dd_sub _)
theorem tds_swap {h o1 o2 : List (List Int)} (hH : HallOk h) (h1 : HistOk h o1) (h2 : HistOk h o2) {p : Nat} (hp : p < h.length) : prs (tds h o2 p) (tds h o1 p) = (prs (tds h o1 p) (tds h o2 p)).map Prod.swap :=
  prs_swap (R := TLe) (fun a b => a.anti b) (dd_nodup _) (dd_nodup _) (tds_pw hH h1 hp) (tds_pw hH h2 hp)
theorem tds_cons (h o : List (List Int)) (p : Nat) : ∃ Z, tds h o p = gT (leaves h) p :: Z := by
  unfold tds colT
  cases o with
  | nil => exact ⟨[], rfl⟩
  | cons r o => exact dd_cons _ _
theorem tds_head (h o1 o2 : List (List Int)) (p : Nat) : ∃ M, prs (tds h o1 p) (tds h o2 p) = (0, 0) :: M := by
  obtain ⟨Z1, e1⟩ := tds_cons h o1 p
  obtain ⟨Z2, e2⟩ := tds_cons h o2 p
  rw [e1, e2]
  exact prs_head Z1 Z2
theorem ddA_len {α : Type} [DecidableEq α] : ∀ (xs acc : List α), (ddA acc xs).length ≤ acc.length + xs.length
  | [], acc => Nat.le_refl _
  | x :: xs, acc => by
    unfold ddA
    split
    · have := ddA_len xs acc
      rw [List.length_cons]
      omega
    · have := ddA_len xs (acc ++ [x])
      rw [List.length_append, List.length_singleton] at this
      rw [List.length_cons]
      omega
theorem dd_len {α : Type} [DecidableEq α] (xs : List α) : (dd xs).length ≤ xs.length := by
  have := ddA_len xs []
  rw [List.length_nil, Nat.zero_add] at this
  exact this
end K25

set_option Elab.async false
set_option linter.all false
set_option autoImplicit false
set_option maxRecDepth 100000
namespace K25
open PySem PySem.Spec PyProof.Rows L2 DL
local macro_rules | `(tactic| walk_at "dd") => `(tactic| simp only [dSeq, dIfS, dTst, dOp, dBx0, dBx1, dBx2, dC, fI_int, dAsg, dVar, dgName, dSb0, dSb2, dRet, dNext, en0, agSl, List.map_cons, List.map_nil, List.length_cons, List.length_nil, List.replicate, fPlus_ii, fPlus_ll, fPlus_tt, fPlus_ss, fTimes_ii, fTimes_li, List.cons_append, List.nil_append, List.getElem?_cons_zero, List.getElem?_cons_succ, Option.some.injEq, Sl.im.injEq, Sl.ow.injEq, exists_eq_left', exists_eq_left, true_and, and_true, PyData.bool.injEq, List.set_cons_zero, List.set_cons_succ, dCall, dCons, dNil, dConsB, dCbQ, fLen, dSq, seqD_list, seqD_tuple, dIx, fIx_int, Prod.mk.injEq, dAsgO, dLst, agD, Option.map_some, dFor, dItS, dIns, dOwn, dFrz, dFz, dPar, dTup, dgTup, dgsCons, dgsNil, dRng, dIf, dRgT, dRgL, dPass, dApp, dSet, dEnum, dNotT, dAndT, dOrT, dNotV, dAndV, dOrV, dIsi, fAll, fAny, fSum, fTuple, dFq, dLc, dwipe, dYes, dListQ, dSortQ, dSortSet, dRepF, dCut, dNoP, dPt, dNeg, dTru, fIsN, fEq_int, fNe_int, decide_eq_true_eq, and_assoc, exists_and_left, Bool.false_eq_true, if_false, if_true, Bool.not_eq_true', decide_eq_false_iff_not, dIn])
/-! ### dates -/
def lastB (hs : List (List Int)) (p : Int) : Nat → Option Nat
  | 0 => none
  | k + 1 => if p ∈ hs.getD k [] then some k else lastB hs p k
def Dts (hs : List (List Int)) : List Int → Nat → List Nat
  | [], _ => []
  | p :: t, far => match lastB hs p far with
    | none => []
    | some b => b :: Dts hs t b
theorem lastB_lt {hs : List (List Int)} {p : Int} : ∀ {k b : Nat}, lastB hs p k = some b → b < k
  | 0, b, h => by cases h
  | k + 1, b, h => by
    unfold lastB at h
    split at h
    · cases h; omega
    · have := lastB_lt h; omega
theorem lastB_filter (hs : List (List Int)) (p : Int) : ∀ k : Nat, ((List.range k).filter fun b => decide (p ∈ hs.getD b [])).getLast? = lastB hs p k
  | 0 => rfl
  | k + 1 => by
    rw [List.range_succ, List.filter_append]
    unfold lastB
    by_cases h : p ∈ hs.getD k []
    · rw [if_pos h, List.filter_cons_of_pos (by simpa using h), List.filter_nil, List.getLast?_concat]
    · rw [if_neg h, List.filter_cons_of_neg (by simpa using h), List.filter_nil, List.append_nil]
      exact lastB_filter hs p k
def natsD (l : List Nat) : List PyData := l.map fun (b : Nat) => PyData.int (Int.ofNat b)
theorem natsD_ok {l : List Nat} : ∀ x ∈ natsD l, Okd 0 x := fun x hx => by
  obtain ⟨b, _, rfl⟩ := List.mem_map.mp hx
  exact Okd.int _
theorem fEq_nil {ds : List PyData} {C : PyData → Prop} (hl : ds.length ≤ 50000) (ho : ∀ x ∈ ds, Okd 0 x) (h : C (.bool ds.isEmpty)) : fEq false (.list ds) (.list []) C :=
  ⟨(Okd.list hl ho).shp.ok (by decide), rfl, by
    have e : PyData.eqv (.list ds) (.list []) = ds.isEmpty := by cases ds <;> rfl
    show C (.bool (PyData.eqv (.list ds) (.list [])))
    rw [e]
    exact h⟩
section
variable {P : Program} {w : World} {K : PySem.W.Frag} {mg : Str → Option Value} {base : Heap}
def con_law_dates : Con := fun as n P => ∃ (hs : List (List Int)) (t : List Int) (far : Nat), as = [.im (.list (hs.map rowD)), .im (.tuple (t.map PyData.int)), .im (.int (far : Int))] ∧ far ≤ hs.length ∧ hs.length ≤ 1000 ∧ t.length ≤ 1000 ∧ P (.list (natsD (Dts hs t far))) n
abbrev s_law_dates : Stmt := topS 29
theorem sc_law_dates : FnScope ["_law_history_here", "_law_trail", "_law_far", "_law_found", "_law_person", "_law_some", "_law_beat_here"] ["_law_history_here", "_law_trail", "_law_far"] (defScope s_law_dates) := ⟨rfl, rfl, rfl, by decide +kernel, rfl, by decide +kernel, by decide +kernel⟩
-- calls: []; slots: [(0, '_law_history_here'), (1, '_law_trail'), (2, '_law_far'), (3, '_law_found'), (4, '_law_person'), (5, '_law_some'), (6, '_law_beat_here')]
theorem ok_law_dates {f : Addr} {fd : FuncData} (F : Fun K "_law_dates" "_law_dates" s_law_dates f fd) (B : Bt mg) : FnOk P w K mg base CX0 1 f fd ["_law_history_here", "_law_trail", "_law_far"] (spD K 3 con_law_dates) := by
  refine def_ok F sc_law_dates rfl ?_
  intro cdv A outer s H E hr
  refine ⟨_, _, (dss_cons (ds_setO 3 sc_law_dates.nd rfl (.inl rfl) (df_lst da_nil))
      (dss_cons (ds_for PassesOwn.never rfl (di_seq (de_var 1)) (dg_name 4 sc_law_dates.nd rfl (.inr rfl)) (dss_cons (ds_setLc 5 (own := [("_law_beat_here", 6)]) rfl sc_law_dates.nd rfl rfl (sw_true rfl rfl rfl (by decide +kernel)) (di_range (by rfl) B.range (de_var 2)) (blkOk_by (by kernel_rfl)) (fun _ _ _ _ _ => (dg_name 6 sc_law_dates.nd rfl (.inl rfl))) (fun _ _ _ _ _ => (dts_one (dt_in (de_var 4) (de_dq (de_ix (de_dq (de_var 0)) (de_var 6) (fun _ _ => rfl)))))) (fun _ _ _ _ _ => (de_var 6)))
      (dss_cons (ds_if (dt_eq hr.units (de_var 5) (df_de (df_lst da_nil))) (dss_frz 3 (dss_one (ds_ret (de_var 3)))) dss_nil)
      (dss_cons (ds_set 2 sc_law_dates.nd rfl (.inl rfl) (de_ix (de_dq (de_var 5)) (de_neg de_int) (fun _ _ => rfl)))
      (dss_one (ds_append' 3 (de_var 2)))))))
      (dss_frz 3 (dss_one (ds_ret (de_var 3)))))), fun as n P hl h => ?_⟩
  obtain ⟨hs, t, far, rfl, hf, hl1, hl2, h⟩ := h
  walk_at "dd"
  refine ⟨by decide, ?_⟩
  refine for_ind (fun i ε m => ∃ (fo : List Nat) (fa : Nat) (x y z : Sl), ε = [Sl.im (.list (hs.map rowD)), Sl.im (.tuple (t.map PyData.int)), Sl.im (.int (fa : Int)), Sl.ow (natsD fo), x, y, z] ∧ fa ≤ hs.length ∧ fo.length ≤ i ∧ Dts hs t far = fo ++ Dts hs (t.drop i) fa ∧ m = n) _ _ n 0 ⟨[], far, .no, .no, .no, rfl, hf, Nat.le_refl _, rfl, rfl⟩ (fun j y ε m hj hI Y hY => ?_) (fun ε m hI => ?_)
  · obtain ⟨fo, fa, x1, x2, x3, rfl, hfa, hfo, hD, rfl⟩ := hI
    rw [List.getElem?_map] at hj
    cases hr : t[j]? with
    | none =>
      rw [hr] at hj
      cases hj
    | some p =>
      rw [hr] at hj
      cases hj
      have e2 : t.drop j = p :: t.drop (j + 1) := by
        obtain ⟨hj', e⟩ := List.getElem?_eq_some_iff.mp hr
        rw [← e]
        exact List.drop_eq_getElem_cons hj'
      rw [Nat.zero_add, e2] at hD
      walk_at "dd"
      refine ⟨by omega, by omega, by rw [rgD_length]; omega, ?_⟩
      refine lc_ind (fun i acc m' => acc = natsD ((List.range i).filter fun b => decide (p ∈ hs.getD b [])) ∧ m' = m) _ _ m 0 ⟨rfl, rfl⟩ (fun q y acc m' hq hI Z hZ => ?_) (fun acc m' hI => ?_)
      · obtain ⟨rfl, rfl⟩ := hI
        obtain ⟨hq1, rfl⟩ := rgD_get hq
        rw [Int.toNat_natCast] at hq1
        have hq2 : q < hs.length := by omega
        have hg : hs.getD q [] = hs[q] := by rw [List.getD_eq_getElem?_getD, List.getElem?_eq_getElem hq2]; rfl
        walk_at "dd"
        refine ⟨rowD hs[q], atI_nat (by rw [List.getElem?_map, List.getElem?_eq_getElem hq2]; rfl), true, _, rfl, _, rfl, _, vDs_int _, ?_⟩
        rw [inV_int]
        by_cases hp : p ∈ hs[q]
        · rw [if_pos (decide_eq_true hp)]
          refine hZ _ _ ⟨?_, rfl⟩
          rw [List.range_succ, List.filter_append, List.filter_cons_of_pos (by rw [Nat.zero_add, hg]; exact decide_eq_true hp)]
          unfold natsD
          rw [List.map_append, Nat.zero_add]
          rfl
        · rw [if_neg (by rw [decide_eq_false hp]; decide)]
          refine hZ _ _ ⟨?_, rfl⟩
          rw [List.range_succ, List.filter_append, List.filter_cons_of_neg (by rw [Nat.zero_add, hg, decide_eq_false hp]; decide), List.filter_nil, List.append_nil, Nat.zero_add]
      · obtain ⟨rfl, rfl⟩ := hI
        rw [rgD_length, Nat.zero_add, Int.toNat_natCast]
        have hlast := lastB_filter hs p fa
        refine ⟨by decide, ?_⟩
        have hln : (natsD ((List.range fa).filter fun b => decide (p ∈ hs.getD b []))).length ≤ 50000 := by
          unfold natsD
          rw [List.length_map]
          refine Nat.le_trans (List.length_filter_le _ _) ?_
          rw [List.length_range]
          omega
        refine fEq_nil hln natsD_ok ?_
        cases hB : lastB hs p fa with
        | none =>
          rw [hB, List.getLast?_eq_none_iff] at hlast
          rw [hlast]
          refine ⟨true, rfl, ?_⟩
          have hd : Dts hs t far = fo := by
            rw [hD]
            simp [Dts, hB]
          rw [hd] at h
          exact h
        | some b =>
          rw [hB] at hlast
          obtain ⟨ys, hys⟩ := List.getLast?_eq_some_iff.mp hlast
          have hbl := lastB_lt hB
          rw [hys]
          have hna : natsD (ys ++ [b]) = natsD ys ++ [.int (b : Int)] := by unfold natsD; rw [List.map_append]; rfl
          rw [hna]
          have hj2 : j < t.length := (List.getElem?_eq_some_iff.mp hr).1
          refine ⟨false, by simp, ?_⟩
          rw [if_neg (by decide)]
          refine ⟨.int (b : Int), atI_last _ _, by unfold natsD; rw [List.length_map]; omega, hY _ _ ⟨fo ++ [b], b, .im (.int p), .im (.list (natsD ys ++ [.int (b : Int)])), x3, ?_, by omega, by rw [List.length_append, List.length_singleton]; omega, ?_, rfl⟩⟩
          · have hnb : natsD (fo ++ [b]) = natsD fo ++ [.int (b : Int)] := by unfold natsD; rw [List.map_append]; rfl
            rw [hnb]
          · rw [hD, Nat.zero_add]
            simp [Dts, hB]
  · obtain ⟨fo, fa, x1, x2, x3, rfl, hfa, hfo, hD, rfl⟩ := hI
    walk_at "dd"
    rw [Nat.zero_add, List.length_map, List.drop_length] at hD
    rw [hD] at h
    simpa [Dts] using h
def con_law_goes : Con := fun as n P => ∃ (hs : List (List Int)) (t : List Int), as = [.im (.list (hs.map rowD)), .im (.tuple (t.map PyData.int))] ∧ hs.length ≤ 1000 ∧ t.length ≤ 1000 ∧ P (.bool (decide ((Dts hs t hs.length).length = t.length))) n
theorem ris_len : ∀ (r : List Int) (lo m : Int), lo ≤ m → r.Pairwise (· < ·) → (∀ i ∈ r, lo ≤ i ∧ i < m) → (r.length : Int) ≤ m - lo
  | [], lo, m, h, _, _ => by simp; omega
  | a :: r, lo, m, h, hp, hi => by
    have ha := hi a List.mem_cons_self
    have hr := ris_len r (a + 1) m (by omega) (List.pairwise_cons.mp hp).2 fun i hx => ⟨by have := (List.pairwise_cons.mp hp).1 i hx; omega, (hi i (List.mem_cons_of_mem _ hx)).2⟩
    rw [List.length_cons]
    omega
/-- a trail of a hall -/
def TrailOk (h : List (List Int)) (t : List Int) : Prop := t ≠ [] ∧ (∀ p ∈ t, 0 ≤ p ∧ p < (h.length : Int)) ∧ ∀ (i : Nat) (p q : Int), t[i]? = some p → t[i + 1]? = some q → q ∈ h.getD p.toNat []
theorem TrailOk.one {h : List (List Int)} {p : Int} (h0 : 0 ≤ p) (h1 : p < (h.length : Int)) : TrailOk h [p] := ⟨by simp, fun q hq => by rw [List.mem_singleton.mp hq]; exact ⟨h0, h1⟩, fun i a b ha hb => by simp at hb⟩
theorem TrailOk.snoc {h : List (List Int)} {t : List Int} {p q : Int} (ht : TrailOk h (t ++ [p])) (hq : q ∈ h.getD p.toNat []) (h0 : 0 ≤ q) (h1 : q < (h.length : Int)) : TrailOk h (t ++ [p] ++ [q]) := by
  refine ⟨by simp, fun x hx => ?_, fun i a b ha hb => ?_⟩
  · rcases List.mem_append.mp hx with hx | hx
    · exact ht.2.1 x hx
    · rw [List.mem_singleton.mp hx]; exact ⟨h0, h1⟩
  · have hb1 := (List.getElem?_eq_some_iff.mp hb).1
    rw [List.length_append, List.length_singleton] at hb1
    by_cases hi : i + 1 < (t ++ [p]).length
    · rw [List.getElem?_append_left (by omega)] at ha
      rw [List.getElem?_append_left hi] at hb
      exact ht.2.2 i a b ha hb
    · have hi2 : i = t.length := by
        rw [List.length_append, List.length_singleton] at hi hb1
        omega
      subst hi2
      rw [List.getElem?_append_left (by rw [List.length_append, List.length_singleton]; omega), List.getElem?_append_right (Nat.le_refl _), Nat.sub_self] at ha
      rw [List.getElem?_append_right (by rw [List.length_append, List.length_singleton]; omega), List.length_append, List.length_singleton, Nat.sub_self] at hb
      cases ha
      cases hb
      exact hq
def con_law_walk : Con := fun as n P => ∃ (h : List (List Int)) (m : Int), as = [.bx, .im (hallD h), .im (.int m)] ∧ IsHall h ∧ h.length ≤ 100 ∧ 1 ≤ m ∧ m ≤ 500 ∧ n ≤ 90000000 ∧ ∀ (t : List Int) (n' : Nat), TrailOk h t → (t.length : Int) ≤ m → n' ≤ n + 1000 → P (.tuple (t.map PyData.int)) n'
end
end K25

set_option Elab.async false
set_option linter.all false
set_option autoImplicit false
set_option maxRecDepth 100000
namespace K25
open PySem PySem.Spec PyProof.Rows L2 DL
/-! ### trails that go, and trees -/
def TR (h hs : List (List Int)) (d : Nat) : List Tr := (hs.take d).foldl (stepT h) (leaves h)
theorem foldT_len (h : List (List Int)) : ∀ (hs : List (List Int)) (B : List Tr), (hs.foldl (stepT h) B).length = B.length
  | [], _ => rfl
  | r :: hs, B => by
    rw [List.foldl_cons, foldT_len h hs]
    exact stepT_len B r B
theorem TR_len (h hs : List (List Int)) (d : Nat) : (TR h hs d).length = h.length := by
  unfold TR leaves
  rw [foldT_len, List.length_map, List.length_range]
theorem TR_succ {h hs : List (List Int)} {d : Nat} (hd : d < hs.length) : TR h hs (d + 1) = stepT h (TR h hs d) (hs.getD d []) := by
  unfold TR
  rw [List.take_add_one, List.getElem?_eq_getElem hd, List.foldl_append, List.getD_eq_getElem?_getD, List.getElem?_eq_getElem hd]
  rfl
theorem TR_last {h hs : List (List Int)} (hr : ∀ r ∈ hs, ∀ p ∈ r, 0 ≤ p ∧ p < (h.length : Int)) {s : Nat} (hs1 : s < h.length) : ∀ d : Nat, d ≤ hs.length → gT (TR h hs d) s = match lastB hs (s : Int) d with | none => .leaf s | some e => treeBeat h (TR h hs e) (s : Int)
  | 0, _ => gdT (by
      show (leaves h)[s]? = _
      unfold leaves
      rw [List.getElem?_map, List.getElem?_range hs1]
      rfl)
  | d + 1, hd => by
    have ih := TR_last hr hs1 d (by omega)
    have hmem : hs.getD d [] ∈ hs := by
      rw [List.getD_eq_getElem?_getD, List.getElem?_eq_getElem (by omega)]
      exact List.getElem_mem _
    rw [TR_succ (by omega)]
    have e := stepT_gd (TR h hs d) hs1 (hs.getD d []) (TR h hs d) (TR_len h hs d) (hr _ hmem)
    unfold stepT
    rw [e]
    unfold lastB
    by_cases c : (s : Int) ∈ hs.getD d []
    · rw [if_pos c, if_pos c]
    · rw [if_neg c, if_neg c]
      exact ih
def goesB (hs : List (List Int)) : Nat → List Int → Option Nat
  | far, [] => some far
  | far, p :: t => match lastB hs p far with
    | none => none
    | some d => goesB hs d t
theorem goesB_dts (hs : List (List Int)) : ∀ (t : List Int) (far : Nat), (goesB hs far t).isSome = decide ((Dts hs t far).length = t.length)
  | [], _ => rfl
  | p :: t, far => by
    unfold goesB Dts
    cases e : lastB hs p far with
    | none => simp
    | some d => simp [goesB_dts hs t d]
theorem goesB_snoc (hs : List (List Int)) (s : Int) : ∀ (t : List Int) (far : Nat), goesB hs far (t ++ [s]) = (goesB hs far t).bind fun d => lastB hs s d
  | [], far => by
    show (match lastB hs s far with | none => none | some d => some d) = lastB hs s far
    cases lastB hs s far <;> rfl
  | p :: t, far => by
    rw [List.cons_append]
    unfold goesB
    cases e : lastB hs p far with
    | none => rfl
    | some d => exact goesB_snoc hs s t d
theorem goesB_le (hs : List (List Int)) : ∀ (t : List Int) (far d : Nat), goesB hs far t = some d → d ≤ far
  | [], far, d, e => by
    have : far = d := Option.some.inj e
    omega
  | p :: t, far, d, e => by
    unfold goesB at e
    cases q : lastB hs p far with
    | none => rw [q] at e; cases e
    | some d1 =>
      rw [q] at e
      have h1 := goesB_le hs t d1 d e
      have h2 := lastB_lt q
      omega
def gB (hs : List (List Int)) (t : List Int) : Bool := (goesB hs hs.length t).isSome
theorem gB_snoc {hs : List (List Int)} {t : List Int} {s : Int} (h : gB hs (t ++ [s]) = true) : gB hs t = true := by
  unfold gB at h ⊢
  rw [goesB_snoc] at h
  cases e : goesB hs hs.length t with
  | none => rw [e] at h; cases h
  | some d => rfl
/-! ### levels -/
def lastP (t : List Int) : Int := t.getLast?.getD 0
theorem lastP_snoc (t : List Int) (s : Int) : lastP (t ++ [s]) = s := by
  unfold lastP
  rw [List.getLast?_concat]
  rfl
def extL (h : List (List Int)) (t : List Int) : List (List Int) := (h.getD (lastP t).toNat []).map fun s => t ++ [s]
def aL (h : List (List Int)) (p : Int) : Nat → List (List Int)
  | 0 => [[p]]
  | k + 1 => (aL h p k).flatMap (extL h)
def gL (h hs : List (List Int)) (p : Int) (k : Nat) : List (List Int) := (aL h p k).filter (gB hs)
theorem ext_filter (h hs : List (List Int)) : ∀ L : List (List Int), (L.flatMap (extL h)).filter (gB hs) = ((L.filter (gB hs)).flatMap (extL h)).filter (gB hs)
  | [] => rfl
  | t :: L => by
    rw [List.flatMap_cons, List.filter_append, ext_filter h hs L, List.filter_cons]
    by_cases c : gB hs t = true
    · rw [if_pos c, List.flatMap_cons, List.filter_append]
    · rw [if_neg c]
      have : (extL h t).filter (gB hs) = [] := by
        rw [List.filter_eq_nil_iff]
        intro x hx
        obtain ⟨s, _, rfl⟩ := List.mem_map.mp hx
        exact fun z => c (gB_snoc z)
      rw [this, List.nil_append]
theorem gL_succ (h hs : List (List Int)) (p : Int) (k : Nat) : gL h hs p (k + 1) = ((gL h hs p k).flatMap (extL h)).filter (gB hs) := ext_filter h hs _
def aAll (h : List (List Int)) (p : Int) (m : Nat) : List (List Int) := (List.range m).flatMap (aL h p)
def gAll (h hs : List (List Int)) (p : Int) (m : Nat) : List (List Int) := (List.range m).flatMap (gL h hs p)
theorem aAll_succ (h : List (List Int)) (p : Int) (m : Nat) : aAll h p (m + 1) = aAll h p m ++ aL h p m := by
  unfold aAll
  rw [List.range_succ, List.flatMap_append]
  simp
theorem gAll_succ (h hs : List (List Int)) (p : Int) (m : Nat) : gAll h hs p (m + 1) = gAll h hs p m ++ gL h hs p m := by
  unfold gAll
  rw [List.range_succ, List.flatMap_append]
  simp
theorem aAll_go (h hs : List (List Int)) (p : Int) : ∀ m : Nat, (aAll h p m).filter (gB hs) = gAll h hs p m
  | 0 => rfl
  | m + 1 => by
    rw [aAll_succ, gAll_succ, List.filter_append, aAll_go h hs p m]
    rfl
theorem aL_size {h : List (List Int)} {p : Int} : ∀ {k : Nat} {t : List Int}, t ∈ aL h p k → t.length = k + 1
  | 0, t, ht => by
    rw [List.mem_singleton.mp ht]
    rfl
  | k + 1, t, ht => by
    obtain ⟨u, hu, hx⟩ := List.mem_flatMap.mp ht
    obtain ⟨s, _, rfl⟩ := List.mem_map.mp hx
    rw [List.length_append, List.length_singleton, aL_size hu]
theorem gL_size {h hs : List (List Int)} {p : Int} {k : Nat} {t : List Int} (ht : t ∈ gL h hs p k) : t.length = k + 1 := aL_size (List.mem_filter.mp ht).1
/-- those of so many persons at most -/
theorem gAll_cut (h hs : List (List Int)) (p : Int) : ∀ {m s : Nat}, (gAll h hs p m).filter (fun t => decide (t.length ≤ s)) = gAll h hs p (min m s)
  | 0, s => by
    rw [Nat.zero_min]
    rfl
  | m + 1, s => by
    rw [gAll_succ, List.filter_append, gAll_cut h hs p (m := m)]
    by_cases c : m + 1 ≤ s
    · rw [Nat.min_eq_left (by omega), Nat.min_eq_left c, gAll_succ]
      congr 1
      rw [List.filter_eq_self]
      intro t ht
      have := gL_size ht
      simp
      omega
    · rw [Nat.min_eq_right (by omega), Nat.min_eq_right (by omega)]
      have : (gL h hs p m).filter (fun t => decide (t.length ≤ s)) = [] := by
        rw [List.filter_eq_nil_iff]
        intro t ht
        have := gL_size ht
        simp
        omega
      rw [this, List.append_nil]
theorem aL_len {h : List (List Int)} {m : Nat} (hm : ∀ r ∈ h, r.length ≤ m) {p : Int} : ∀ k : Nat, (aL h p k).length ≤ m ^ k
  | 0 => Nat.le_refl _
  | k + 1 => by
    have ih := aL_len hm (p := p) k
    have fl : ∀ L : List (List Int), (L.flatMap (extL h)).length ≤ m * L.length := fun L => by
      induction L with
      | nil => simp
      | cons t L ih2 =>
        rw [List.flatMap_cons, List.length_append, List.length_cons, Nat.mul_add, Nat.mul_one]
        have : (extL h t).length ≤ m := by
          unfold extL
          rw [List.length_map, List.getD_eq_getElem?_getD]
          cases e : h[(lastP t).toNat]? with
          | none => simp
          | some r => exact hm r (List.mem_of_getElem? e)
        omega
    have := fl (aL h p k)
    calc (aL h p (k + 1)).length ≤ m * (aL h p k).length := this
      _ ≤ m * m ^ k := Nat.mul_le_mul_left _ ih
      _ = m ^ (k + 1) := by rw [Nat.pow_succ, Nat.mul_comm]
/-! ### sorted -/
def srtL (ts : List (List Int)) : List (List Int) := ts.mergeSort fun a b => decide (a ≤ b)
theorem srt_uniq {us ts : List (List Int)} (hp : us.Perm ts) (hw : us.Pairwise (· ≤ ·)) : us = srtL ts := by
  have h1 : (srtL ts).Perm ts := List.mergeSort_perm _ _
  have h2 : (srtL ts).Pairwise (· ≤ ·) := by
    refine (List.pairwise_mergeSort (le := fun (p q : List Int) => decide (p ≤ q)) (fun a b c h1 h2 => ?_) (fun a b => ?_) ts).imp fun {x y} z => of_decide_eq_true z
    · rw [decide_eq_true_eq] at h1 h2 ⊢
      exact List.le_trans h1 h2
    · rcases List.le_total a b with z | z
      · simp [z]
      · simp [z]
  exact List.Perm.eq_of_pairwise (le := (· ≤ ·)) (fun a b _ _ z1 z2 => List.le_antisymm z1 z2) hw h2 (hp.trans h1.symm)
theorem srt_perm (ts : List (List Int)) : (srtL ts).Perm ts := List.mergeSort_perm _ _
theorem srt_pw (ts : List (List Int)) : (srtL ts).Pairwise (· ≤ ·) := by
  refine (List.pairwise_mergeSort (le := fun (p q : List Int) => decide (p ≤ q)) (fun a b c h1 h2 => ?_) (fun a b => ?_) ts).imp fun {x y} z => of_decide_eq_true z
  · rw [decide_eq_true_eq] at h1 h2 ⊢
    exact List.le_trans h1 h2
  · rcases List.le_total a b with z | z
    · simp [z]
    · simp [z]
theorem srt_filter (ts : List (List Int)) (f : List Int → Bool) : (srtL ts).filter f = srtL (ts.filter f) := srt_uniq ((srt_perm ts).filter f) ((srt_pw ts).sublist List.filter_sublist)
end K25

set_option Elab.async false
set_option linter.all false
set_option autoImplicit false
set_option maxRecDepth 100000
namespace K25
open PySem PySem.Spec PyProof.Rows L2 DL
local macro_rules | `(tactic| walk_at "dd") => `(tactic| simp only [dSeq, dIfS, dTst, dOp, dBx0, dBx1, dBx2, dC, fI_int, dAsg, dVar, dgName, dSb0, dSb2, dRet, dNext, en0, agSl, List.map_cons, List.map_nil, List.length_cons, List.length_nil, List.replicate, fPlus_ii, fPlus_ll, fPlus_tt, fPlus_ss, fTimes_ii, fTimes_li, List.cons_append, List.nil_append, List.getElem?_cons_zero, List.getElem?_cons_succ, Option.some.injEq, Sl.im.injEq, Sl.ow.injEq, exists_eq_left', exists_eq_left, true_and, and_true, PyData.bool.injEq, List.set_cons_zero, List.set_cons_succ, dCall, dCons, dNil, dConsB, dCbQ, fLen, dSq, seqD_list, seqD_tuple, dIx, fIx_int, Prod.mk.injEq, dAsgO, dLst, agD, Option.map_some, dFor, dItS, dIns, dOwn, dFrz, dFz, dPar, dTup, dgTup, dgsCons, dgsNil, dRng, dIf, dRgT, dRgL, dPass, dApp, dSet, dEnum, dNotT, dAndT, dOrT, dNotV, dAndV, dOrV, dIsi, fAll, fAny, fSum, fTuple, dFq, dLc, dwipe, dYes, dListQ, dSortQ, dSortSet, dRepF, dCut, dNoP, dPt, dNeg, dTru, fIsN, fEq_int, fNe_int, decide_eq_true_eq, and_assoc, exists_and_left, Bool.false_eq_true, if_false, if_true, Bool.not_eq_true', decide_eq_false_iff_not, dIn, dInP, dPure, dpFld, dpBx, dPutP, dLenP, dAppP, dGetP, imS, drFld, drVar, dRd, dMethB, dMethR, dConsR, dCallNew, dnMake, dLsZip, dLsEnum, dLsZpM, dMaxD, dAugI, dAugT, dStd, dAsgN, dSetCallB, dDefB, dLenD, dTwo, dRev, dFoc, dnNewD, dInt, dAsgFO, dnLst, dRetN', dLstF, dDat, dStill, dnCall, dLook, dLookT, frzS, dAppN, dCallD, dCallK, fIsB, dParOF, dParFO, dParOO, fEqS_str, dgSeq, fTimesT_ti, dReprA, dChain, dBackT, dZip, dZip3, fRepr, dCall2New, sqD, dRetO, dInK, dGetK, dPutK, dLenK, dnNewK, dLockK, dItK, dInKR, dGetKR, dSortP, dSetCallBO, dIdx, dpVar, dFgt, dFoc1, dParFN, dAsgOO, dLc2, dLenSet, dInD, dSortT, dExt, dnDisp1, dnDc, dGetN, dInK, dPutK, dmCons, dmNil, dnCallK])
def nextS (h : List (List Int)) (b : Bk) (p x : Nat) : List (Nat × Nat) := ((h.getD p []).map Int.toNat).zip (b.es.getD (x - b.nh) (0, [])).2
def stD (ss : List (Nat × Nat)) : List PyData := ss.map fun q => PyData.tuple [.int (q.1 : Int), .int (q.2 : Int)]
theorem zip_stD : ∀ (r : List Int) (l : List Nat), (∀ s ∈ r, 0 ≤ s) → List.zipWith (fun a b => PyData.tuple [a, b]) (r.map PyData.int) (nsD l) = stD ((r.map Int.toNat).zip l)
  | [], _, _ => rfl
  | _ :: _, [], _ => rfl
  | s :: r, x :: l, h => by
    have e : ((s.toNat : Nat) : Int) = s := Int.toNat_of_nonneg (h s List.mem_cons_self)
    show PyData.tuple [.int s, .int (x : Int)] :: List.zipWith (fun a b => PyData.tuple [a, b]) (r.map PyData.int) (nsD l) = PyData.tuple [.int (s.toNat : Int), .int (x : Int)] :: stD ((r.map Int.toNat).zip l)
    rw [zip_stD r l fun y hy => h y (List.mem_cons_of_mem _ hy), e]
def looksOf (h : List (List Int)) (b : Bk) (p x : Nat) : List (Nat × Nat) := if x < b.nh then [] else nextS h b p x
section
variable {P : Program} {w : World} {K : PySem.W.Frag} {mg : Str → Option Value} {base : Heap}
def con_looks_along (S : Type) (C : Addr) : ConS S := fun as n P => ∃ (d1 : PyData) (h : List (List Int)) (b : Bk) (p x : Nat), as = [.rd (bookO C b), .im d1, .im (.int (p : Int)), .im (.int (x : Int))] ∧ RowsR d1 h ∧ (∀ r ∈ h, r.length ≤ 1000 ∧ ∀ s ∈ r, 0 ≤ s) ∧ p < h.length ∧ x < b.nh + b.es.length ∧ P (.list (stD (looksOf h b p x))) n
abbrev s_looks_along : Stmt := topS 7
theorem sc_looks_along : FnScope ["book", "hall", "person", "writing"] ["book", "hall", "person", "writing"] (defScope s_looks_along) := ⟨rfl, rfl, rfl, by decide +kernel, rfl, by decide +kernel, by decide +kernel⟩
theorem ok_looks_along {S : Type} [MOw S] {f C : Addr} {fd : FuncData} (F : Fun K "looks_along" "looks_along" s_looks_along f fd) (B : Bt mg) (T : BkT K mg C) (F_is_first : Km (S := S) P w K mg base C "is_first" 1 2 (con_is_first S C)) : FnOk P w K mg base CX0 2 f fd ["book", "hall", "person", "writing"] (spD (S := S) K 4 (con_looks_along S C)) := by
  refine def_ok F sc_looks_along rfl ?_
  intro cdv A outer s H E hr
  refine ⟨_, _, (dss_cons (ds_if (dt_val (de_methR T.cl F_is_first (hr.mono (by decide)) (dr_var 0) (da_cons (de_var 3) da_nil))) (dss_one (ds_ret (df_de (df_lst da_nil)))) dss_nil)
      (dss_one (ds_ret (df_de (df_listZpM rfl (by rfl) B.list (by rfl) B.zip (de_ix (de_dq (de_var 1)) (de_var 2) (fun _ _ => rfl)) (de_ix (de_dq (dv_de (dv_rd (dr_fld 1 T.cl T.nL (dr_var 0))))) (de_var 3) (fun _ _ => rfl))))))), fun as n P hl h => ?_⟩
  obtain ⟨d1, h0, b, p, x, rfl, ⟨k1, e1, hs1, hl1, hr1⟩, hH, hp, hx, h⟩ := h
  walk_at "dd"
  refine ⟨_, rfl, _, _, rfl, by decide +kernel, b, x, rfl, hx, ?_⟩
  unfold looksOf at h
  by_cases hf : x < b.nh
  · have e : isF b x = true := decide_eq_true hf
    rw [if_pos hf] at h
    simp only [e]
    refine ⟨true, rfl, ?_⟩
    rw [if_pos rfl]
    exact ⟨by decide, h⟩
  · have e : isF b x = false := decide_eq_false hf
    rw [if_neg hf] at h
    simp only [e]
    refine ⟨false, rfl, ?_⟩
    rw [if_neg (by decide)]
    obtain ⟨r', hr', kr, hkr⟩ := hr1 p hp
    have hgp : h0.getD p [] = h0[p] := gdT (List.getElem?_eq_getElem hp)
    have hi : b.es[x - b.nh]? = some b.es[x - b.nh] := List.getElem?_eq_getElem (by omega)
    have hlk := looks_at hx
    rw [hi] at hlk
    simp only [if_neg hf] at hlk
    have hrow := hH h0[p] (List.getElem_mem hp)
    refine ⟨k1, e1, hs1, r', atI_nat hr', _, rfl, _, _, rfl, fsN, rfl, _, rfl, _, toD_dats _, false, _, rfl, _, atI_nat hlk, kr, true, _, hkr, _, rfl, ?_, ?_⟩
    · rw [List.length_map, hgp]
      have := hrow.1
      omega
    · rw [hgp, zip_stD _ _ hrow.2]
      unfold nextS at h
      rw [gdT hi, hgp] at h
      exact h
end
end K25

set_option Elab.async false
set_option linter.all false
set_option autoImplicit false
set_option maxRecDepth 100000
namespace K25
open PySem PySem.Spec PyProof.Rows L2 DL
theorem hallOk_of {h : List (List Int)} (hH : IsHall h) (hl : h.length ≤ 8) : HallOk h := ⟨fun r hr => ⟨by
    have h1 : (r.length : Int) ≤ (h.length : Int) - 0 := ris_len r 0 _ (by omega) (hH.2 r hr).1 (hH.2 r hr).2
    omega, (hH.2 r hr).2⟩, by omega⟩
theorem histOk_of {h o : List (List Int)} (hl : h.length ≤ 8) (hr : ∀ r ∈ o, Ris (h.length : Int) r) (ho : o.length ≤ 1000) : HistOk h o := ⟨fun r hx => (hr r hx).2, ho, by
  have h2 : callsN o ≤ 8 * o.length := callsN_le o fun r hx => by
    have h1 : (r.length : Int) ≤ (h.length : Int) - 0 := ris_len r 0 _ (by omega) (hr r hx).1 (hr r hx).2
    omega
  omega⟩
end K25

set_option Elab.async false
set_option linter.all false
set_option autoImplicit false
set_option maxRecDepth 100000
namespace K25
open PySem PySem.Spec PyProof.Rows L2 DL
local macro_rules | `(tactic| walk_at "dd") => `(tactic| simp only [dSeq, dIfS, dTst, dOp, dBx0, dBx1, dBx2, dC, fI_int, dAsg, dVar, dgName, dSb0, dSb2, dRet, dNext, en0, agSl, List.map_cons, List.map_nil, List.length_cons, List.length_nil, List.replicate, fPlus_ii, fPlus_ll, fPlus_tt, fPlus_ss, fTimes_ii, fTimes_li, List.cons_append, List.nil_append, List.getElem?_cons_zero, List.getElem?_cons_succ, Option.some.injEq, Sl.im.injEq, Sl.ow.injEq, exists_eq_left', exists_eq_left, true_and, and_true, PyData.bool.injEq, List.set_cons_zero, List.set_cons_succ, dCall, dCons, dNil, dConsB, dCbQ, fLen, dSq, seqD_list, seqD_tuple, dIx, fIx_int, Prod.mk.injEq, dAsgO, dLst, agD, Option.map_some, dFor, dItS, dIns, dOwn, dFrz, dFz, dPar, dTup, dgTup, dgsCons, dgsNil, dRng, dIf, dRgT, dRgL, dPass, dApp, dSet, dEnum, dNotT, dAndT, dOrT, dNotV, dAndV, dOrV, dIsi, fAll, fAny, fSum, fTuple, dFq, dLc, dwipe, dYes, dListQ, dSortQ, dSortSet, dRepF, dCut, dNoP, dPt, dNeg, dTru, fIsN, fEq_int, fNe_int, decide_eq_true_eq, and_assoc, exists_and_left, Bool.false_eq_true, if_false, if_true, Bool.not_eq_true', decide_eq_false_iff_not, dIn, dInP, dPure, dpFld, dpBx, dPutP, dLenP, dAppP, dGetP, imS, drFld, drVar, dRd, dMethB, dMethR, dConsR, dCallNew, dnMake, dLsZip, dLsEnum, dLsZpM, dMaxD, dAugI, dAugT, dStd, dAsgN, dSetCallB, dDefB, dLenD, dTwo, dRev, dFoc, dnNewD, dInt, dAsgFO, dnLst, dRetN', dLstF, dDat, dStill, dnCall, dLook, dLookT, frzS, dAppN, dCallD, dCallK, fIsB, dParOF, dParFO, dParOO, fEqS_str, dgSeq, fTimesT_ti, dReprA, dChain, dBackT, dZip, dZip3, fRepr, dCall2New, sqD, dRetO, dInK, dGetK, dPutK, dLenK, dnNewK, dLockK, dItK, dInKR, dGetKR, dSortP, dSetCallBO, dIdx, dpVar, dFgt, dFoc1, dParFN, dAsgOO, dLc2, dLenSet, dInD, dSortT, dExt, dnDisp1, dnDc, dGetN, dInK, dPutK, dmCons, dmNil, dnCallK])
/-! ### levels of trails with their writings -/
def ltD (lv : List (List Int × Nat)) : List PyData := lv.map fun q => PyData.tuple [DL.tupD q.1, .int (q.2 : Int)]
theorem ltD_len (lv : List (List Int × Nat)) : (ltD lv).length = lv.length := List.length_map _
structure LvOk (h hs : List (List Int)) (b : Bk) (q : List Int × Nat) : Prop where
  ex : ∃ (t : List Int) (s d : Nat), q.1 = t ++ [(s : Int)] ∧ s < h.length ∧ goesB hs hs.length t = some d ∧ d ≤ hs.length ∧ q.2 < b.nh + b.es.length ∧ tt b q.2 = gT (TR h hs d) s
theorem lv_last {h hs : List (List Int)} {b : Bk} {q : List Int × Nat} (k : LvOk h hs b q) : ∃ s : Nat, s < h.length ∧ lastP q.1 = (s : Int) ∧ q.1 ≠ [] ∧ ∃ t, q.1 = t ++ [(s : Int)] := by
  obtain ⟨t, s, d, e, hs', _⟩ := k.ex
  exact ⟨s, hs', by rw [e]; exact lastP_snoc _ _, by rw [e]; simp, t, e⟩
section
variable {h hs : List (List Int)} {b : Bk} (hr : ∀ r ∈ hs, ∀ p ∈ r, 0 ≤ p ∧ p < (h.length : Int)) (kb : BkG b) (hn : b.nh = h.length)
include hr kb hn
theorem lv_first {q : List Int × Nat} (k : LvOk h hs b q) : isF b q.2 = !gB hs q.1 := by
  obtain ⟨t, s, d, e1, hs', e2, hd, hw, e3⟩ := k.ex
  have e4 : gB hs q.1 = (lastB hs (s : Int) d).isSome := by
    unfold gB
    rw [e1, goesB_snoc, e2]
    rfl
  rw [e4]
  rw [TR_last hr hs' d hd] at e3
  unfold isF
  by_cases c : q.2 < b.nh
  · rw [tt_first c] at e3
    cases e5 : lastB hs (s : Int) d with
    | none => simp [c]
    | some d2 =>
      rw [e5] at e3
      cases e3
  · have hi : b.es[q.2 - b.nh]? = some b.es[q.2 - b.nh] := List.getElem?_eq_getElem (by omega)
    have e6 := tt_call kb hi
    rw [show b.nh + (q.2 - b.nh) = q.2 by omega, e3] at e6
    cases e5 : lastB hs (s : Int) d with
    | none =>
      rw [e5] at e6
      cases e6
    | some d2 => simp [c]
def lgr (h : List (List Int)) (b : Bk) (q : List Int × Nat) : List (List Int × Nat) := (looksOf h b (lastP q.1).toNat q.2).map fun u => (q.1 ++ [(u.1 : Int)], u.2)
omit hr kb hn in
theorem zip_fst : ∀ {r : List Int} {l : List Nat} {t : List Int}, (∀ s ∈ r, 0 ≤ s) → r.length = l.length → (((r.map Int.toNat).zip l).map fun u => (t ++ [((u.1 : Nat) : Int)], u.2)).map (·.1) = r.map fun s => t ++ [s]
  | [], [], _, _, _ => rfl
  | s :: r, x :: l, t, h0, hl => by
    have ih := zip_fst (r := r) (l := l) (t := t) (fun y hy => h0 y (List.mem_cons_of_mem _ hy)) (by simpa using hl)
    have e : ((s.toNat : Nat) : Int) = s := Int.toNat_of_nonneg (h0 s List.mem_cons_self)
    show (t ++ [((s.toNat : Nat) : Int)]) :: (((r.map Int.toNat).zip l).map fun u => (t ++ [((u.1 : Nat) : Int)], u.2)).map (·.1) = (t ++ [s]) :: r.map fun s => t ++ [s]
    rw [ih, e]
  | [], _ :: _, _, _, hl => by cases hl
  | _ :: _, [], _, _, hl => by cases hl
theorem lv_longer (hH : ∀ r ∈ h, ∀ s ∈ r, 0 ≤ s ∧ s < (h.length : Int)) {q : List Int × Nat} (k : LvOk h hs b q) (hg : gB hs q.1 = true) : (lgr h b q).map (·.1) = extL h q.1 ∧ ∀ u ∈ lgr h b q, LvOk h hs b u := by
  obtain ⟨t, s, d, e1, hs', e2, hd, hw, e3⟩ := k.ex
  have e4 : gB hs q.1 = (lastB hs (s : Int) d).isSome := by
    unfold gB
    rw [e1, goesB_snoc, e2]
    rfl
  rw [e4] at hg
  obtain ⟨d2, e5⟩ := Option.isSome_iff_exists.mp hg
  have hd2 := lastB_lt e5
  rw [TR_last hr hs' d hd, e5] at e3
  have c : ¬ q.2 < b.nh := fun c => by
    rw [tt_first c] at e3
    cases e3
  have hi : b.es[q.2 - b.nh]? = some b.es[q.2 - b.nh] := List.getElem?_eq_getElem (by omega)
  have e6 := tt_call kb hi
  rw [show b.nh + (q.2 - b.nh) = q.2 by omega, e3] at e6
  have e6' : Tr.node (s : Int).toNat ((h.getD (s : Int).toNat []).map fun u => gT (TR h hs d2) u.toNat) = .node (b.es[q.2 - b.nh]).1 ((b.es[q.2 - b.nh]).2.map (tt b)) := e6
  rw [Int.toNat_natCast] at e6'
  injection e6' with _ e7
  have el : lastP q.1 = (s : Int) := by rw [e1]; exact lastP_snoc _ _
  have hlk : looksOf h b (lastP q.1).toNat q.2 = ((h.getD s []).map Int.toNat).zip (b.es[q.2 - b.nh]).2 := by
    rw [el, Int.toNat_natCast]
    unfold looksOf nextS
    rw [if_neg c, gdT hi]
  have hrow := hall_row hH hs'
  have ell : (h.getD s []).length = (b.es[q.2 - b.nh]).2.length := by
    have := congrArg List.length e7
    rwa [List.length_map, List.length_map] at this
  refine ⟨?_, fun u hu => ?_⟩
  · unfold lgr extL
    rw [hlk, zip_fst (fun y hy => (hrow y hy).1) ell, el, Int.toNat_natCast]
  · unfold lgr at hu
    rw [hlk] at hu
    obtain ⟨v, hv, rfl⟩ := List.mem_map.mp hu
    obtain ⟨j, hj⟩ := List.getElem?_of_mem hv
    rw [List.getElem?_zip_eq_some, List.getElem?_map] at hj
    obtain ⟨j1, j2⟩ := hj
    cases ej : (h.getD s [])[j]? with
    | none => rw [ej] at j1; cases j1
    | some y =>
      rw [ej] at j1
      have hy := hrow y (List.mem_of_getElem? ej)
      have ey : y.toNat = v.1 := Option.some.inj j1
      have ejt : gT (TR h hs d2) y.toNat = tt b v.2 := by
        have := congrArg (fun l => l[j]?) e7
        simp only [List.getElem?_map, ej, j2, Option.map_some, Option.some.injEq] at this
        exact this
      refine ⟨q.1, v.1, d2, rfl, by omega, ?_, by omega, ?_, ?_⟩
      · rw [e1, goesB_snoc, e2]
        exact e5
      · have := kb.lt _ _ hi v.2 (List.mem_of_getElem? j2)
        show v.2 < _
        omega
      · show tt b v.2 = gT (TR h hs d2) v.1
        rw [← ejt, ey]
end
theorem lv_filter {h hs : List (List Int)} {b : Bk} (hr : ∀ r ∈ hs, ∀ p ∈ r, 0 ≤ p ∧ p < (h.length : Int)) (kb : BkG b) (hn : b.nh = h.length) : ∀ {lv : List (List Int × Nat)}, (∀ q ∈ lv, LvOk h hs b q) → (lv.filter fun q => !isF b q.2).map (·.1) = (lv.map (·.1)).filter (gB hs)
  | [], _ => rfl
  | q :: lv, k => by
    have ih := lv_filter hr kb hn (lv := lv) fun x hx => k x (List.mem_cons_of_mem _ hx)
    rw [List.filter_cons, List.map_cons, List.filter_cons, lv_first hr kb hn (k q List.mem_cons_self), Bool.not_not]
    by_cases c : gB hs q.1 = true
    · rw [if_pos c, if_pos c, List.map_cons, ih]
    · rw [if_neg c, if_neg c, ih]
theorem lv_ext {h hs : List (List Int)} {b : Bk} (hr : ∀ r ∈ hs, ∀ p ∈ r, 0 ≤ p ∧ p < (h.length : Int)) (kb : BkG b) (hn : b.nh = h.length) (hH : ∀ r ∈ h, ∀ s ∈ r, 0 ≤ s ∧ s < (h.length : Int)) : ∀ {lv : List (List Int × Nat)}, (∀ q ∈ lv, LvOk h hs b q ∧ gB hs q.1 = true) → (lv.flatMap (lgr h b)).map (·.1) = (lv.map (·.1)).flatMap (extL h) ∧ ∀ u ∈ lv.flatMap (lgr h b), LvOk h hs b u
  | [], _ => ⟨rfl, fun u hu => (by cases hu)⟩
  | q :: lv, k => by
    obtain ⟨i1, i2⟩ := lv_ext hr kb hn hH (lv := lv) fun x hx => k x (List.mem_cons_of_mem _ hx)
    obtain ⟨z1, z2⟩ := k q List.mem_cons_self
    obtain ⟨j1, j2⟩ := lv_longer hr kb hn hH z1 z2
    rw [List.flatMap_cons, List.map_append, List.map_cons, List.flatMap_cons, i1, j1]
    refine ⟨rfl, fun u hu => ?_⟩
    rcases List.mem_append.mp hu with hu | hu
    · exact j2 u hu
    · exact i2 u hu
end K25
set_option Elab.async false
set_option linter.all false
set_option autoImplicit false
set_option maxRecDepth 100000
set_option maxHeartbeats 2000000
namespace K25
open PySem PySem.Spec PyProof.Rows L2 DL
local macro_rules | `(tactic| walk_at "dd") => `(tactic| simp only [dSeq, dIfS, dTst, dOp, dBx0, dBx1, dBx2, dC, fI_int, dAsg, dVar, dgName, dSb0, dSb2, dRet, dNext, en0, agSl, List.map_cons, List.map_nil, List.length_cons, List.length_nil, List.replicate, fPlus_ii, fPlus_ll, fPlus_tt, fPlus_ss, fTimes_ii, fTimes_li, List.cons_append, List.nil_append, List.getElem?_cons_zero, List.getElem?_cons_succ, Option.some.injEq, Sl.im.injEq, Sl.ow.injEq, exists_eq_left', exists_eq_left, true_and, and_true, PyData.bool.injEq, List.set_cons_zero, List.set_cons_succ, dCall, dCons, dNil, dConsB, dCbQ, fLen, dSq, seqD_list, seqD_tuple, dIx, fIx_int, Prod.mk.injEq, dAsgO, dLst, agD, Option.map_some, dFor, dItS, dIns, dOwn, dFrz, dFz, dPar, dTup, dgTup, dgsCons, dgsNil, dRng, dIf, dRgT, dRgL, dPass, dApp, dSet, dEnum, dNotT, dAndT, dOrT, dNotV, dAndV, dOrV, dIsi, fAll, fAny, fSum, fTuple, dFq, dLc, dwipe, dYes, dListQ, dSortQ, dSortSet, dRepF, dCut, dNoP, dPt, dNeg, dTru, fIsN, fEq_int, fNe_int, decide_eq_true_eq, and_assoc, exists_and_left, Bool.false_eq_true, if_false, if_true, Bool.not_eq_true', decide_eq_false_iff_not, dIn, dInP, dPure, dpFld, dpBx, dPutP, dLenP, dAppP, dGetP, imS, drFld, drVar, dRd, dMethB, dMethR, dConsR, dCallNew, dnMake, dLsZip, dLsEnum, dLsZpM, dMaxD, dAugI, dAugT, dStd, dAsgN, dSetCallB, dDefB, dLenD, dTwo, dRev, dFoc, dnNewD, dInt, dAsgFO, dnLst, dRetN', dLstF, dDat, dStill, dnCall, dLook, dLookT, frzS, dAppN, dCallD, dCallK, fIsB, dParOF, dParFO, dParOO, fEqS_str, dgSeq, fTimesT_ti, dReprA, dChain, dBackT, dZip, dZip3, fRepr, dCall2New, sqD, dRetO, dInK, dGetK, dPutK, dLenK, dnNewK, dLockK, dItK, dInKR, dGetKR, dSortP, dSetCallBO, dIdx, dpVar, dFgt, dFoc1, dParFN, dAsgOO, dLc2, dLenSet, dInD, dSortT, dExt, dnDisp1, dnDc, dGetN, dInK, dPutK, dmCons, dmNil, dnCallK])
/-! ### the queue of hanging_trails -/
def addQ (t : List Int) (Q : List (List Int × Nat)) (u : Nat × Nat) : List (List Int × Nat) := if u.2 ∈ Q.map (·.2) then Q else Q ++ [(t ++ [(u.1 : Int)], u.2)]
def turnQ (h : List (List Int)) (b : Bk) (Q : List (List Int × Nat)) (i : Nat) : List (List Int × Nat) := match Q[i]? with
  | some q => (looksOf h b (lastP q.1).toNat q.2).foldl (addQ q.1) Q
  | none => Q
def runQ (h : List (List Int)) (b : Bk) (p w : Nat) : Nat → List (List Int × Nat)
  | 0 => [([(p : Int)], w)]
  | i + 1 => turnQ h b (runQ h b p w i) i
structure QOk (h : List (List Int)) (b : Bk) (Q : List (List Int × Nat)) : Prop where
  nd : (Q.map (·.2)).Nodup
  at_ : ∀ i q, Q[i]? = some q → q.2 < b.nh + b.es.length ∧ q.1.length ≤ i + 1 ∧ (∀ x ∈ q.1, 0 ≤ x ∧ x < (h.length : Int)) ∧ ∃ (t : List Int) (s : Nat), q.1 = t ++ [(s : Int)] ∧ s < h.length
theorem QOk.len {h : List (List Int)} {b : Bk} {Q : List (List Int × Nat)} (k : QOk h b Q) : Q.length ≤ b.nh + b.es.length := by
  have h1 : (Q.map (·.2)).Perm ((List.range (b.nh + b.es.length)).filter fun x => decide (x ∈ Q.map (·.2))) := (List.perm_ext_iff_of_nodup k.nd (List.nodup_range.filter _)).mpr fun x => by
    rw [List.mem_filter, List.mem_range, decide_eq_true_eq]
    refine ⟨fun hx => ⟨?_, hx⟩, fun hx => hx.2⟩
    obtain ⟨q, hq, rfl⟩ := List.mem_map.mp hx
    obtain ⟨i, hi⟩ := List.getElem?_of_mem hq
    exact (k.at_ i q hi).1
  have h2 := h1.length_eq
  have h3 := List.length_filter_le (fun x => decide (x ∈ Q.map (·.2))) (List.range (b.nh + b.es.length))
  rw [List.length_range] at h3
  rw [List.length_map] at h2
  omega
theorem addQ_ok {h : List (List Int)} {b : Bk} {Q : List (List Int × Nat)} (k : QOk h b Q) {t : List Int} {u : Nat × Nat} (h1 : u.2 < b.nh + b.es.length) (h2 : t.length ≤ Q.length) (h3 : ∀ x ∈ t, 0 ≤ x ∧ x < (h.length : Int)) (h4 : u.1 < h.length) : QOk h b (addQ t Q u) := by
  unfold addQ
  split
  · exact k
  · rename_i c
    refine ⟨?_, fun i q hq => ?_⟩
    · rw [List.map_append, List.nodup_append]
      exact ⟨k.nd, List.pairwise_singleton _ _, fun a ha b hb e => c (by rw [List.map_singleton, List.mem_singleton] at hb; rw [hb] at e; rw [← e]; exact ha)⟩
    · by_cases hi : i < Q.length
      · rw [List.getElem?_append_left hi] at hq
        exact k.at_ i q hq
      · have hi' : i = Q.length := by
          have := (List.getElem?_eq_some_iff.mp hq).1
          rw [List.length_append, List.length_singleton] at this
          omega
        subst hi'
        rw [List.getElem?_concat_length] at hq
        cases hq
        refine ⟨h1, by rw [List.length_append, List.length_singleton]; omega, fun x hx => ?_, t, u.1, rfl, h4⟩
        rcases List.mem_append.mp hx with hx | hx
        · exact h3 x hx
        · rw [List.mem_singleton.mp hx]
          exact ⟨by omega, by omega⟩
theorem addQ_len (t : List Int) (Q : List (List Int × Nat)) (u : Nat × Nat) : Q.length ≤ (addQ t Q u).length := by
  unfold addQ
  split
  · exact Nat.le_refl _
  · rw [List.length_append]
    omega
theorem addQs_ok {h : List (List Int)} {b : Bk} {t : List Int} (h3 : ∀ x ∈ t, 0 ≤ x ∧ x < (h.length : Int)) : ∀ (us : List (Nat × Nat)) {Q : List (List Int × Nat)}, QOk h b Q → t.length ≤ Q.length → (∀ u ∈ us, u.2 < b.nh + b.es.length ∧ u.1 < h.length) → QOk h b (us.foldl (addQ t) Q) ∧ Q.length ≤ (us.foldl (addQ t) Q).length
  | [], Q, k, _, _ => ⟨k, Nat.le_refl _⟩
  | u :: us, Q, k, hl, hu => by
    have k1 := addQ_ok k (hu u List.mem_cons_self).1 hl h3 (hu u List.mem_cons_self).2
    have l1 := addQ_len t Q u
    obtain ⟨z1, z2⟩ := addQs_ok h3 us k1 (by omega) fun v hv => hu v (List.mem_cons_of_mem _ hv)
    exact ⟨z1, by rw [List.foldl_cons]; omega⟩
theorem looks_ok {h : List (List Int)} {b : Bk} (hH : ∀ r ∈ h, ∀ s ∈ r, 0 ≤ s ∧ s < (h.length : Int)) (kb : BkG b) {p x : Nat} (hp : p < h.length) (hx : x < b.nh + b.es.length) : ∀ u ∈ looksOf h b p x, u.2 < b.nh + b.es.length ∧ u.1 < h.length := fun u hu => by
  unfold looksOf at hu
  split at hu
  · cases hu
  · rename_i c
    unfold nextS at hu
    have hi : b.es[x - b.nh]? = some b.es[x - b.nh] := List.getElem?_eq_getElem (by omega)
    rw [gdT hi] at hu
    obtain ⟨h1, h2⟩ := List.of_mem_zip (a := u.1) (b := u.2) hu
    obtain ⟨s, hs, e⟩ := List.mem_map.mp h1
    have := hall_row hH hp s hs
    have := kb.lt _ _ hi u.2 h2
    exact ⟨by omega, by omega⟩
theorem turnQ_ok {h : List (List Int)} {b : Bk} (hH : ∀ r ∈ h, ∀ s ∈ r, 0 ≤ s ∧ s < (h.length : Int)) (kb : BkG b) {Q : List (List Int × Nat)} (k : QOk h b Q) (i : Nat) : QOk h b (turnQ h b Q i) ∧ Q.length ≤ (turnQ h b Q i).length := by
  unfold turnQ
  split
  · rename_i q hq
    obtain ⟨h1, h2, h3, t, s, et, hs⟩ := k.at_ i q hq
    have hi := (List.getElem?_eq_some_iff.mp hq).1
    have el : lastP q.1 = (s : Int) := by rw [et]; exact lastP_snoc _ _
    rw [el, Int.toNat_natCast]
    exact addQs_ok h3 _ k (by omega) (looks_ok hH kb hs h1)
  · exact ⟨k, Nat.le_refl _⟩
theorem runQ_ok {h : List (List Int)} {b : Bk} (hH : ∀ r ∈ h, ∀ s ∈ r, 0 ≤ s ∧ s < (h.length : Int)) (kb : BkG b) {p w : Nat} (hp : p < h.length) (hw : w < b.nh + b.es.length) : ∀ i, QOk h b (runQ h b p w i)
  | 0 => ⟨List.pairwise_singleton _ _, fun i q hq => by
    cases i with
    | zero =>
      cases hq
      exact ⟨hw, Nat.le_refl _, fun x hx => by rw [List.mem_singleton.mp hx]; exact ⟨by omega, by omega⟩, [], p, rfl, hp⟩
    | succ i => cases hq⟩
  | i + 1 => (turnQ_ok hH kb (runQ_ok hH kb hp hw i) i).1
/-- behind the end nothing more comes -/
theorem runQ_end {h : List (List Int)} {b : Bk} {p w m : Nat} (hm : (runQ h b p w m).length ≤ m) : ∀ j, runQ h b p w (m + j) = runQ h b p w m
  | 0 => rfl
  | j + 1 => by
    show turnQ h b (runQ h b p w (m + j)) (m + j) = _
    rw [runQ_end hm j]
    unfold turnQ
    rw [List.getElem?_eq_none (by omega)]
/-- the dict told: by first writings -/
def hgF (b : Bk) : List (List Int × Nat) → List Int → List PyData → List Int × List PyData
  | [], ks, es => (ks, es)
  | q :: r, ks, es => if isF b q.2 = true then hgF b r (putKI ks (lastP q.1)) (putVI ks es (lastP q.1) (DL.tupD q.1)) else hgF b r ks es
def hgB (h hs : List (List Int)) : Bk := endB h ⟨h.length, []⟩ hs
def hgQ (h hs : List (List Int)) (p : Nat) : List (List Int × Nat) := runQ h (hgB h hs) p ((lastS h ⟨h.length, []⟩ hs).getD p 0) ((hgB h hs).nh + (hgB h hs).es.length)
def hgK (h hs : List (List Int)) (p : Nat) : List Int := (hgF (hgB h hs) (hgQ h hs p) [] []).1
def hgE (h hs : List (List Int)) (p : Nat) : List PyData := (hgF (hgB h hs) (hgQ h hs p) [] []).2
theorem nobxH : ∀ {l : List Sl}, (∀ s ∈ l, s ≠ Sl.bx) → ∀ j : Nat, l[j]? ≠ some Sl.bx := fun h j e => h _ (List.mem_of_getElem? e) rfl
theorem nobxH1 {l : List Sl} {i : Nat} (h : ∀ s ∈ l.set i .no, s ≠ Sl.bx) : ∀ j : Nat, j ≠ i → l[j]? ≠ some Sl.bx := fun j hj e => nobxH h j (by rw [List.getElem?_set_ne (Ne.symm hj)]; exact e)
def mK (Q : List (List Int × Nat)) : List Int := Q.map fun q => (q.2 : Int)
def mE (Q : List (List Int × Nat)) : List PyData := Q.map fun _ => .bool true
theorem putVI_new : ∀ {ks : List Int} {es : List PyData} {i : Int} {d : PyData}, ks.length = es.length → i ∉ ks → putVI ks es i d = es ++ [d]
  | [], [], _, _, _, _ => rfl
  | k :: ks, e :: es, i, d, h, hn => by
    have ih := putVI_new (ks := ks) (es := es) (i := i) (d := d) (by simpa using h) fun z => hn (List.mem_cons_of_mem _ z)
    have hk : ¬ k = i := fun z => hn (by rw [z]; exact List.mem_cons_self)
    simp only [putVI, hk, if_false, ih, List.cons_append]
  | [], _ :: _, _, _, h, _ => by cases h
  | _ :: _, [], _, _, h, _ => by cases h
theorem mK_mem {Q : List (List Int × Nat)} {x : Nat} : (x : Int) ∈ mK Q ↔ x ∈ Q.map (·.2) := by
  unfold mK
  simp only [List.mem_map]
  constructor
  · rintro ⟨q, hq, e⟩
    exact ⟨q, hq, by omega⟩
  · rintro ⟨q, hq, e⟩
    exact ⟨q, hq, by rw [e]⟩
theorem mK_put {Q : List (List Int × Nat)} {q : List Int × Nat} (c : q.2 ∉ Q.map (·.2)) : putKI (mK Q) (q.2 : Int) = mK (Q ++ [q]) ∧ putVI (mK Q) (mE Q) (q.2 : Int) (.bool true) = mE (Q ++ [q]) := by
  have c' : ((q.2 : Nat) : Int) ∉ mK Q := fun z => c (mK_mem.mp z)
  refine ⟨?_, ?_⟩
  · unfold putKI
    rw [if_neg c']
    unfold mK
    rw [List.map_append]
    rfl
  · rw [putVI_new (by unfold mK mE; rw [List.length_map, List.length_map]) c']
    unfold mE
    rw [List.map_append]
    rfl
section
variable {P : Program} {w : World} {K : PySem.W.Frag} {mg : Str → Option Value} {base : Heap}
def con_hanging_trails (S : Type) : ConO S := fun as n P => ∃ (d1 d2 : PyData) (h hs : List (List Int)) (p : Nat), as = [.im d1, .im d2, .im (.int (p : Int))] ∧ RowsR d1 h ∧ RowsR d2 hs ∧ HallOk h ∧ HistOk h hs ∧ p < h.length ∧
  P (.dki (hgK h hs p) ((hgE h hs p).map .dat)) n
theorem dc_hg {S : Type} [MOw S] {b : Bk} {dg : DGt} {dt : DTt S} {dk dv : DEt S} {ε : En} {n : S} {P : List Int → List PyData → S → Prop} (hs : ∀ (q : List Int × Nat) (R : List Int → List PyData → S → Prop) (ks : List Int) (es : List PyData), q.2 < b.nh + b.es.length → q.1 ≠ [] →
      (if isF b q.2 = true then R (putKI ks (lastP q.1)) (putVI ks es (lastP q.1) (DL.tupD q.1)) n else R ks es n) →
      dg (.tuple [DL.tupD q.1, .int (q.2 : Int)]) ε fun ε' => dt ε' n fun b n1 => if b = true then dk ε' n1 fun y n2 => dv ε' n2 fun z n3 => ∃ i, y = .int i ∧ R (putKI ks i) (putVI ks es i z) n3 else R ks es n1) :
    ∀ (Q : List (List Int × Nat)) (ks : List Int) (es : List PyData), (∀ q ∈ Q, q.2 < b.nh + b.es.length ∧ q.1 ≠ []) → P (hgF b Q ks es).1 (hgF b Q ks es).2 n → dcRun dg dt dk dv ε P (ltD Q) ks es n
  | [], ks, es, _, h => h
  | q :: Q, ks, es, hq, h => by
    refine hs q (fun ks es n => dcRun dg dt dk dv ε P (ltD Q) ks es n) ks es (hq q List.mem_cons_self).1 (hq q List.mem_cons_self).2 ?_
    unfold hgF at h
    split
    · rename_i c
      rw [if_pos c] at h
      exact dc_hg hs Q _ _ (fun x hx => hq x (List.mem_cons_of_mem _ hx)) h
    · rename_i c
      rw [if_neg c] at h
      exact dc_hg hs Q _ _ (fun x hx => hq x (List.mem_cons_of_mem _ hx)) h
abbrev s_hanging_trails : Stmt := topS 14
theorem sc_hanging_trails : FnScope ["hall", "history", "person", "book", "start", "queue", "met", "place", "trail", "writing", "seen", "looked"] ["hall", "history", "person"] (defScope s_hanging_trails) := ⟨rfl, rfl, rfl, by decide +kernel, rfl, by decide +kernel, by decide +kernel⟩
theorem ok_hanging_trails {S : Type} [MOw S] {f C : Addr} {fd : FuncData} (F : Fun K "hanging_trails" "hanging_trails" s_hanging_trails f fd) (B : Bt mg) (T : BkT K mg C) (F_Book : Kc P w K mg base "Book" C 2 1 (con_book C)) (F_last_slates : Kf (S := Own) P w K mg base "last_slates" 3 3 (con_last_slates C)) (F_looks_along : Kf P w K mg base "looks_along" 2 4 (con_looks_along S C)) (F_is_first : Km (S := S) P w K mg base C "is_first" 1 2 (con_is_first S C)) : FnOk P w K mg base CX0 4 f fd ["hall", "history", "person"] (spO (S := S) K 3 (con_hanging_trails S)) := by
  refine def_okO F sc_hanging_trails rfl ?_
  intro cdv A outer s H E hr
  refine ⟨_, _, (dss_cons (ds_setN 3 sc_hanging_trails.nd rfl (.inr rfl) (dn_make F_Book (hr.mono (by decide)) (by rfl) (da_cons (de_var 0) da_nil)))
      (dss_cons (ds_foc1 3 (ds_set 4 sc_hanging_trails.nd rfl (.inl rfl) (de_ix (de_dq (de_call F_last_slates (hr.mono (by decide)) (by rfl) (da_box 3 (da_cons (de_var 0) (da_cons (de_var 1) da_nil))))) (de_var 2) (fun _ _ => rfl))))
      (dss_std 3 (dss_cons (ds_setO 5 sc_hanging_trails.nd rfl (.inl rfl) (df_lst (da_cons (de_tup (da_cons (de_tup (da_cons (de_var 2) da_nil)) (da_cons (de_var 4) da_nil))) da_nil)))
      (dss_cons (ds_setN 6 sc_hanging_trails.nd rfl (.inl rfl) (dn_disp1 (de_var 4) de_bl))
      (dss_cons (ds_set 7 sc_hanging_trails.nd rfl (.inl rfl) de_int)
      (dss_cons (ds_while PassesOwn.never (dt_lt (de_var 7) (de_len (by rfl) B.len (dq_own 5))) (dss_cons (ds_asg (de_ix (dq_own 5) (de_var 7) (fun _ _ => rfl)) (dg_tup (n := 2) rfl (dgs_cons (dg_name 8 sc_hanging_trails.nd rfl (.inl rfl)) (dgs_cons (dg_name 9 sc_hanging_trails.nd rfl (.inl rfl)) dgs_nil))))
      (dss_cons (ds_for PassesOwn.never rfl (di_seq (de_call F_looks_along (hr.mono (by decide)) (by rfl) (da_rd 3 (da_cons (de_var 0) (da_cons (de_ix (de_dq (de_var 8)) (de_neg de_int) (fun _ _ => rfl)) (da_cons (de_var 9) da_nil)))))) (dg_tup (n := 2) rfl (dgs_cons (dg_name 10 sc_hanging_trails.nd rfl (.inl rfl)) (dgs_cons (dg_name 11 sc_hanging_trails.nd rfl (.inl rfl)) dgs_nil))) (dss_one (ds_if (dt_notInK hr.units (dv_pure (de_var 11)) (dp_var 6)) (dss_cons (ds_putK hr.units (dp_var 6) (dv_pure (de_var 11)) (dv_pure de_bl))
      (dss_one (ds_append' 5 (de_tup (da_cons (de_plus (de_var 8) (de_tup (da_cons (de_var 10) da_nil))) (da_cons (de_var 11) da_nil)))))) dss_nil)))
      (dss_one (ds_addI 7 sc_hanging_trails.nd rfl (.inl rfl) de_int)))))
      (dss_frz 5 (dss_one (ds_retN' (dn_dc (own := [("trail", 8), ("writing", 9)]) rfl sc_hanging_trails.nd (di_seq (de_var 5)) (blkOk_by (by kernel_rfl)) (fun _ _ _ _ _ => (dg_tup (n := 2) rfl (dgs_cons (dg_name 8 sc_hanging_trails.nd rfl (.inl rfl)) (dgs_cons (dg_name 9 sc_hanging_trails.nd rfl (.inl rfl)) dgs_nil)))) (fun _ _ _ _ _ => (dts_one (dt_val (de_methR T.cl F_is_first (hr.mono (by decide)) (dr_var 3) (da_cons (de_var 9) da_nil))))) (fun _ _ _ _ _ => (de_ix (de_dq (de_var 8)) (de_neg de_int) (fun _ _ => rfl))) (fun _ _ _ _ _ => (de_var 8))))))))))))), fun as n P hl h => ?_⟩
  obtain ⟨d1, d2, h0, hs, p, rfl, q1, q2, q3, q4, hp, h⟩ := h
  obtain ⟨k1, e1, hs1, hl1, hr1⟩ := id q1
  have hH0 : ∀ r ∈ h0, ∀ s ∈ r, 0 ≤ s ∧ s < (h0.length : Int) := fun r hr => (q3.1 r hr).2
  obtain ⟨r1, r2, r3⟩ := runR_G hH0 hs ⟨h0.length, []⟩ (List.range h0.length) (leaves h0) q4.1 (bkg0 _) (range_T rfl)
  have r1' : BkG (endB h0 ⟨h0.length, []⟩ hs) := r1
  have r2' : GrB ⟨h0.length, []⟩ (endB h0 ⟨h0.length, []⟩ hs) := r2
  have r3' : TSl h0 (endB h0 ⟨h0.length, []⟩ hs) (lastS h0 ⟨h0.length, []⟩ hs) (hs.foldl (stepT h0) (leaves h0)) := r3
  obtain ⟨f1, f2, f3⟩ := endB_all (h := h0) (b := ⟨h0.length, []⟩) hs rfl
  have hHl := q3.2
  have hcl := q4.2.2
  have h10 := q4.2.1
  walk_at "dd"
  refine ⟨(fun z => by rcases List.mem_cons.mp z with z | z <;> cases z), d1, k1, e1, rfl, hs1, by omega, ?_⟩
  rw [hl1]
  refine ⟨nobxH (by simp), _, rfl, trivial, d1, d2, h0, hs, _, rfl, q1, q2, rfl, rfl, q3.1, q4.1, q3.2, q4.2.1, by simp only [List.length_nil]; omega, ?_⟩
  have hnb : (endB h0 ⟨h0.length, []⟩ hs).nh = h0.length := r2'.nh
  have hbl : (endB h0 ⟨h0.length, []⟩ hs).es.length ≤ 10000 := by
    simp only [List.length_nil, Nat.zero_add] at f2
    omega
  obtain ⟨b, hb⟩ : ∃ b, b = endB h0 ⟨h0.length, []⟩ hs := ⟨_, rfl⟩
  obtain ⟨sl, hsl0⟩ : ∃ sl, sl = lastS h0 ⟨h0.length, []⟩ hs := ⟨_, rfl⟩
  have hQ : hgQ h0 hs p = runQ h0 b p (sl.getD p 0) (b.nh + b.es.length) := by
    unfold hgQ hgB
    rw [hb, hsl0]
  have hK : hgK h0 hs p = (hgF b (runQ h0 b p (sl.getD p 0) (b.nh + b.es.length)) [] []).1 := by
    unfold hgK
    rw [hQ]
    unfold hgB
    rw [hb]
  have hE : hgE h0 hs p = (hgF b (runQ h0 b p (sl.getD p 0) (b.nh + b.es.length)) [] []).2 := by
    unfold hgE
    rw [hQ]
    unfold hgB
    rw [hb]
  rw [← hb] at r1' r3' hnb hbl ⊢
  rw [← hsl0] at r3' ⊢
  obtain ⟨s1, s2⟩ := r3'.at_ p hp
  have hsl : sl[p]? = some (sl.getD p 0) := by
    have : p < sl.length := by rw [r3'.ls]; exact hp
    rw [List.getD_eq_getElem?_getD, List.getElem?_eq_getElem this]
    rfl
  generalize sl.getD p 0 = w0 at *
  refine ⟨false, nsD sl, rfl, .int (w0 : Int), atI_nat (by unfold nsD; rw [List.getElem?_map, hsl]; rfl), nobxH1 (by simp), _, rfl, by decide, by decide, by decide, (w0 : Int), rfl, ?_⟩
  have hN : b.nh + b.es.length ≤ 10100 := by omega
  have ok := runQ_ok hH0 r1' hp s1
  refine ⟨fun m' ε m => ∃ (i : Nat) (x8 x9 x10 x11 : Sl), ε = [Sl.im d1, Sl.im d2, Sl.im (.int (p : Int)), Sl.rd (bookO C b), Sl.im (.int (w0 : Int)), Sl.ow (ltD (runQ h0 b p w0 i)), Sl.ob (.dki (mK (runQ h0 b p w0 i)) ((mE (runQ h0 b p w0 i)).map .dat)), Sl.im (.int (i : Int)), x8, x9, x10, x11] ∧ i ≤ (runQ h0 b p w0 i).length ∧ m' = b.nh + b.es.length - i ∧ m = n, ⟨_, 0, .no, .no, .no, .no, rfl, Nat.zero_le _, rfl, rfl⟩, fun m' ε m hW => ?_⟩
  obtain ⟨i, x8, x9, x10, x11, rfl, hi, rfl, rfl⟩ := hW
  obtain ⟨Q, hQi⟩ : ∃ Q, Q = runQ h0 b p w0 i := ⟨_, rfl⟩
  have okQ := ok i
  have okN := ok (i + 1)
  have hlQ := okQ.len
  rw [← hQi] at hi okQ hlQ ⊢
  walk_at "dd"
  rw [ltD_len]
  by_cases c : (i : Int) < (Q.length : Int)
  · have hq : Q[i]? = some Q[i] := List.getElem?_eq_getElem (by omega)
    obtain ⟨z1, z2, z3, t, s, et, hs2⟩ := okQ.at_ i _ hq
    have hat : atI (ltD Q) (i : Int) = some (.tuple [DL.tupD (Q[i]).1, .int ((Q[i]).2 : Int)]) := atI_nat (by unfold ltD; rw [List.getElem?_map, hq]; rfl)
    rw [if_pos c]
    refine ⟨_, hat, ?_⟩
    have el : lastP (Q[i]).1 = (s : Int) := by rw [et]; exact lastP_snoc _ _
    have hat2 : atI ((Q[i]).1.map PyData.int) (-1) = some (.int (s : Int)) := by
      rw [et, List.map_append]
      exact atI_last _ _
    have htn : runQ h0 b p w0 (i + 1) = (looksOf h0 b s (Q[i]).2).foldl (addQ (Q[i]).1) Q := by
      show turnQ h0 b (runQ h0 b p w0 i) i = _
      rw [← hQi]
      unfold turnQ
      rw [hq]
      dsimp only
      rw [el, Int.toNat_natCast]
    have hlen2 := (turnQ_ok hH0 r1' (ok i) i).2
    have hlq2 := okN.len
    dsimp only [dgTup, dgsCons, dgsNil, dgName]
    walk_at "dd"
    refine ⟨_, rfl, true, _, rfl, _, hat2, d1, h0, b, s, (Q[i]).2, rfl, q1, fun r hr => ⟨(q3.1 r hr).1, fun x hx => ((q3.1 r hr).2 x hx).1⟩, hs2, z1, ?_⟩
    show forRun _ _ _ (stD (looksOf h0 b s (Q[i]).2)) _ _
    obtain ⟨L, hL⟩ : ∃ L, L = looksOf h0 b s (Q[i]).2 := ⟨_, rfl⟩
    have hLk := looks_ok hH0 r1' hs2 z1
    rw [← hL] at htn hLk ⊢
    refine for_ind (fun j ε m' => ∃ x10 x11 : Sl, ε = [Sl.im d1, Sl.im d2, Sl.im (.int (p : Int)), Sl.rd (bookO C b), Sl.im (.int (w0 : Int)), Sl.ow (ltD ((L.take j).foldl (addQ (Q[i]).1) Q)), Sl.ob (.dki (mK ((L.take j).foldl (addQ (Q[i]).1) Q)) ((mE ((L.take j).foldl (addQ (Q[i]).1) Q)).map .dat)), Sl.im (.int (i : Int)), Sl.im (DL.tupD (Q[i]).1), Sl.im (.int ((Q[i]).2 : Int)), x10, x11] ∧ m' = m) _ _ m 0 ⟨_, _, rfl, rfl⟩ (fun j y ε m' hj hI Y hY => ?_) (fun ε m' hI => ?_)
    · obtain ⟨x10, x11, rfl, rfl⟩ := hI
      rw [Nat.zero_add] at *
      obtain ⟨u, hu, rfl⟩ : ∃ u, L[j]? = some u ∧ y = .tuple [.int (u.1 : Int), .int (u.2 : Int)] := by
        unfold stD at hj
        rw [List.getElem?_map] at hj
        cases e : L[j]? with
        | none => rw [e] at hj; cases hj
        | some q =>
          rw [e] at hj
          cases hj
          exact ⟨q, rfl, rfl⟩
      have hstep : (L.take (j + 1)).foldl (addQ (Q[i]).1) Q = addQ (Q[i]).1 ((L.take j).foldl (addQ (Q[i]).1) Q) u := by
        rw [List.take_add_one, hu, List.foldl_append]
        rfl
      obtain ⟨okJ, hlJ⟩ := addQs_ok z3 (L.take j) okQ (by omega) fun v hv => hLk v (List.mem_of_mem_take hv)
      have hlenJ := okJ.len
      rw [hstep] at hY
      generalize (L.take j).foldl (addQ (Q[i]).1) Q = R at *
      walk_at "dd"
      refine ⟨⟨_, rfl⟩, mK R, (mE R).map .dat, rfl, (u.2 : Int), rfl, ?_⟩
      by_cases c2 : u.2 ∈ R.map (·.2)
      · rw [if_neg (fun z => z (mK_mem.mpr c2))]
        refine hY _ _ ⟨.im (.int (u.1 : Int)), .im (.int (u.2 : Int)), ?_, rfl⟩
        unfold addQ
        rw [if_pos c2]
      · rw [if_pos (fun z => c2 (mK_mem.mp z))]
        have hmk : (mK R).length = R.length := List.length_map _
        refine ⟨⟨_, rfl⟩, mK R, mE R, rfl, by omega, (u.2 : Int), rfl, ltD R, rfl, DL.tupD (Q[i]).1, rfl, .int (u.1 : Int), rfl, by decide, ?_⟩
        have e : ((Q[i]).1.map PyData.int) ++ [PyData.int (u.1 : Int)] = ((Q[i]).1 ++ [(u.1 : Int)]).map PyData.int := by rw [List.map_append]; rfl
        show _ ≤ 100000 ∧ _
        rw [e]
        obtain ⟨p1, p2⟩ := mK_put (q := ((Q[i]).1 ++ [(u.1 : Int)], u.2)) c2
        refine ⟨by rw [List.length_map]; show (Q[i]).1.length + 1 ≤ 100000; omega, .int (u.2 : Int), rfl, by decide, by rw [ltD_len]; omega, hY _ _ ⟨.im (.int (u.1 : Int)), .im (.int (u.2 : Int)), ?_, rfl⟩⟩
        unfold addQ
        rw [if_neg c2]
        dsimp only at p1 p2
        rw [p1, p2]
        have el2 : ltD (R ++ [((Q[i]).1 ++ [(u.1 : Int)], u.2)]) = ltD R ++ [PyData.tuple [PyData.tuple (((Q[i]).1 ++ [(u.1 : Int)]).map PyData.int), PyData.int (u.2 : Int)]] := by
          unfold ltD
          rw [List.map_append]
          rfl
        rw [el2]
        rfl
    · obtain ⟨x10, x11, rfl, rfl⟩ := hI
      have hLL : (stD L).length = L.length := List.length_map _
      rw [Nat.zero_add, hLL, List.take_length, ← htn]
      walk_at "dd"
      rw [htn] at hlq2 okN
      have hi1 : i + 1 ≤ (runQ h0 b p w0 (i + 1)).length := by
        rw [htn]
        have := (addQs_ok z3 L okQ (by omega) hLk).2
        have hstrict : (L.foldl (addQ (Q[i]).1) Q).length ≥ Q.length := this
        omega
      exact ⟨(i : Int), rfl, b.nh + b.es.length - (i + 1), by omega, i + 1, .im (DL.tupD (Q[i]).1), .im (.int ((Q[i]).2 : Int)), x10, x11, rfl, hi1, rfl⟩
  · rw [if_neg c]
    have hmi : Q.length = i := by omega
    have hfin : runQ h0 b p w0 (b.nh + b.es.length) = Q := by
      have := runQ_end (h := h0) (b := b) (p := p) (w := w0) (m := i) (by rw [← hQi]; omega) (b.nh + b.es.length - i)
      rw [show i + (b.nh + b.es.length - i) = b.nh + b.es.length by omega, ← hQi] at this
      exact this
    rw [hfin] at hK hE
    rw [hK, hE] at h
    refine ⟨by omega, dc_hg (b := b) (fun q R ks es hq1 hq2 hR => ?_) Q [] [] (fun q hq => ?_) h⟩
    · have hat2 : ∃ s : Int, lastP q.1 = s ∧ atI (q.1.map PyData.int) (-1) = some (.int s) := by
        have e := List.dropLast_concat_getLast hq2
        refine ⟨q.1.getLast hq2, by unfold lastP; rw [List.getLast?_eq_some_getLast hq2]; rfl, ?_⟩
        conv => lhs; rw [← e]
        rw [List.map_append]
        exact atI_last _ _
      obtain ⟨s', el', hat2⟩ := hat2
      walk_at "dd"
      refine ⟨_, rfl, _, _, rfl, by decide +kernel, b, q.2, rfl, hq1, _, rfl, ?_⟩
      cases cf : isF b q.2 with
      | true =>
        rw [cf, if_pos rfl, el'] at hR
        rw [if_pos rfl]
        exact ⟨true, _, rfl, _, hat2, _, rfl, hR⟩
      | false =>
        rw [cf, if_neg (by decide)] at hR
        rw [if_neg (by decide)]
        exact hR
    · obtain ⟨j, hj⟩ := List.getElem?_of_mem hq
      obtain ⟨z1, _, _, t, s, et, _⟩ := okQ.at_ j q hj
      exact ⟨z1, by rw [et]; simp⟩
end
end K25
set_option Elab.async false
set_option linter.all false
set_option autoImplicit false
set_option maxRecDepth 100000
namespace K25
open PySem PySem.Spec PyProof.Rows L2 DL
/-! ### of dates -/
theorem lastB_succ (hs : List (List Int)) (p : Int) (k : Nat) : lastB hs p (k + 1) = if p ∈ hs.getD k [] then some k else lastB hs p k := rfl
theorem Dts_none {hs : List (List Int)} {p : Int} {t : List Int} {k : Nat} (h : lastB hs p k = none) : Dts hs (p :: t) k = [] := by
  unfold Dts
  rw [h]
theorem Dts_some {hs : List (List Int)} {p : Int} {t : List Int} {k b : Nat} (h : lastB hs p k = some b) : Dts hs (p :: t) k = b :: Dts hs t b := by
  conv => lhs; unfold Dts
  rw [h]
theorem lastB_app_lo (E L : List (List Int)) (p : Int) : ∀ k : Nat, k ≤ E.length → lastB (E ++ L) p k = lastB E p k
  | 0, _ => rfl
  | k + 1, h => by
    have e : (E ++ L).getD k [] = E.getD k [] := by
      rw [List.getD_eq_getElem?_getD, List.getD_eq_getElem?_getD, List.getElem?_append_left (by omega)]
    unfold lastB
    rw [e, lastB_app_lo E L p k (by omega)]
theorem lastB_app_hi (E L : List (List Int)) (p : Int) : ∀ k : Nat, lastB (E ++ L) p (E.length + k) = match lastB L p k with | some b => some (E.length + b) | none => lastB E p E.length
  | 0 => by
    rw [Nat.add_zero, lastB_app_lo E L p _ (Nat.le_refl _)]
    rfl
  | k + 1 => by
    have e : (E ++ L).getD (E.length + k) [] = L.getD k [] := by
      rw [List.getD_eq_getElem?_getD, List.getD_eq_getElem?_getD, List.getElem?_append_right (by omega), Nat.add_sub_cancel_left]
    rw [show E.length + (k + 1) = (E.length + k) + 1 by omega, lastB_succ, lastB_succ, e]
    by_cases h : p ∈ L.getD k []
    · rw [if_pos h, if_pos h]
    · rw [if_neg h, if_neg h]
      exact lastB_app_hi E L p k
theorem Dts_app_lo (E L : List (List Int)) : ∀ (t : List Int) (k : Nat), k ≤ E.length → Dts (E ++ L) t k = Dts E t k
  | [], _, _ => rfl
  | p :: t, k, h => by
    unfold Dts
    rw [lastB_app_lo E L p k h]
    cases hb : lastB E p k with
    | none => rfl
    | some b =>
      have := lastB_lt hb
      show b :: Dts (E ++ L) t b = b :: Dts E t b
      rw [Dts_app_lo E L t b (by omega)]
theorem Dts_app (E L : List (List Int)) : ∀ (t : List Int) (k : Nat), Dts (E ++ L) t (E.length + k) = (Dts L t k).map (E.length + ·) ++ Dts E (t.drop (Dts L t k).length) E.length
  | [], _ => rfl
  | p :: t, k => by
    have hh := lastB_app_hi E L p k
    cases hb : lastB L p k with
    | none =>
      rw [hb] at hh
      rw [Dts_none hb, List.map_nil, List.nil_append, List.length_nil, List.drop_zero]
      cases hc : lastB E p E.length with
      | none => rw [Dts_none hc, Dts_none (hh.trans hc)]
      | some c =>
        have := lastB_lt hc
        rw [Dts_some hc, Dts_some (hh.trans hc), Dts_app_lo E L t c (by omega)]
    | some b =>
      rw [hb] at hh
      rw [Dts_some hb, Dts_some hh, Dts_app E L t b, List.map_cons, List.length_cons, List.drop_succ_cons, List.cons_append]
theorem Dts_take (H : List (List Int)) : ∀ (t : List Int) (k j : Nat), Dts H (t.take j) k = (Dts H t k).take j
  | [], _, j => by rw [List.take_nil]; unfold Dts; rw [List.take_nil]
  | p :: t, k, 0 => by rw [List.take_zero, List.take_zero]; rfl
  | p :: t, k, j + 1 => by
    rw [List.take_succ_cons]
    unfold Dts
    cases hb : lastB H p k with
    | none => rfl
    | some b =>
      show b :: Dts H (t.take j) b = (b :: Dts H t b).take (j + 1)
      rw [List.take_succ_cons, Dts_take H t b j]
theorem Dts_len (H : List (List Int)) : ∀ (t : List Int) (k : Nat), (Dts H t k).length ≤ t.length
  | [], _ => Nat.le_refl _
  | p :: t, k => by
    unfold Dts
    cases hb : lastB H p k with
    | none => exact Nat.zero_le _
    | some b =>
      show (b :: Dts H t b).length ≤ _
      rw [List.length_cons, List.length_cons]
      exact Nat.succ_le_succ (Dts_len H t b)
theorem lastB_mono {H : List (List Int)} {p : Int} : ∀ {k k' b : Nat}, k ≤ k' → lastB H p k = some b → ∃ b', lastB H p k' = some b' ∧ b ≤ b'
  | k, 0, b, h, hb => by
    have : k = 0 := by omega
    subst this
    cases hb
  | k, k' + 1, b, h, hb => by
    by_cases e : k = k' + 1
    · subst e
      exact ⟨b, hb, Nat.le_refl _⟩
    · have hlt := lastB_lt hb
      unfold lastB
      by_cases hp : p ∈ H.getD k' []
      · rw [if_pos hp]
        exact ⟨k', rfl, by omega⟩
      · rw [if_neg hp]
        exact lastB_mono (k' := k') (by omega) hb
theorem full_mono {H : List (List Int)} : ∀ {t : List Int} {k k' : Nat}, k ≤ k' → (Dts H t k).length = t.length → (Dts H t k').length = t.length
  | [], _, _, _, _ => rfl
  | p :: t, k, k', h, hf => by
    unfold Dts at hf ⊢
    cases hb : lastB H p k with
    | none =>
      rw [hb] at hf
      simp at hf
    | some b =>
      rw [hb] at hf
      obtain ⟨b', hb', hle⟩ := lastB_mono h hb
      rw [hb']
      simp only [List.length_cons, Nat.add_right_cancel_iff] at hf ⊢
      exact full_mono hle hf
theorem full_tail {H : List (List Int)} {p : Int} {t : List Int} {k : Nat} (hf : (Dts H (p :: t) k).length = (p :: t).length) : (Dts H t k).length = t.length := by
  unfold Dts at hf
  cases hb : lastB H p k with
  | none =>
    rw [hb] at hf
    simp at hf
  | some b =>
    rw [hb] at hf
    have := lastB_lt hb
    simp only [List.length_cons, Nat.add_right_cancel_iff] at hf
    exact full_mono (by omega) hf
theorem full_drop {H : List (List Int)} {k : Nat} : ∀ {t : List Int} (i : Nat), (Dts H t k).length = t.length → (Dts H (t.drop i) k).length = (t.drop i).length
  | t, 0, h => h
  | [], i + 1, _ => rfl
  | p :: t, i + 1, h => by
    rw [List.drop_succ_cons]
    exact full_drop i (full_tail h)
theorem full_take {H : List (List Int)} {k : Nat} {t : List Int} (i : Nat) (h : (Dts H t k).length = t.length) : (Dts H (t.take i) k).length = (t.take i).length := by
  rw [Dts_take, List.length_take, List.length_take, h]
theorem Dts_falls {H : List (List Int)} : ∀ (t : List Int) (k : Nat), (Dts H t k).Pairwise (· > ·) ∧ ∀ b ∈ Dts H t k, b < k
  | [], _ => ⟨List.Pairwise.nil, fun b hb => by cases hb⟩
  | p :: t, k => by
    unfold Dts
    cases hb : lastB H p k with
    | none => exact ⟨List.Pairwise.nil, fun b hb => by cases hb⟩
    | some b =>
      have h1 := lastB_lt hb
      have h2 := Dts_falls (H := H) t b
      refine ⟨List.pairwise_cons.mpr ⟨fun c hc => h2.2 c hc, h2.1⟩, fun c hc => ?_⟩
      rcases List.mem_cons.mp hc with rfl | hc
      · exact h1
      · have := h2.2 c hc
        omega
/-- it goes -/
def Goes (H : List (List Int)) (t : List Int) : Bool := decide ((Dts H t H.length).length = t.length)
theorem goes_cut (E L : List (List Int)) (t : List Int) : Goes (E ++ L) t = (List.range (t.length + 1)).any fun i => Goes L (t.take i) && Goes E (t.drop i) := by
  have hlen : (E ++ L).length = E.length + L.length := List.length_append
  have hD := Dts_app E L t L.length
  have hk := Dts_len L t L.length
  rw [Bool.eq_iff_iff]
  unfold Goes
  rw [hlen, hD, List.length_append, List.length_map, decide_eq_true_eq, List.any_eq_true]
  constructor
  · intro h
    refine ⟨(Dts L t L.length).length, List.mem_range.mpr (by omega), ?_⟩
    rw [Bool.and_eq_true, decide_eq_true_eq, decide_eq_true_eq]
    refine ⟨?_, ?_⟩
    · rw [Dts_take, List.length_take, List.length_take]
      omega
    · rw [List.length_drop]
      omega
  · rintro ⟨i, hi, h⟩
    rw [Bool.and_eq_true, decide_eq_true_eq, decide_eq_true_eq] at h
    have hi' := List.mem_range.mp hi
    have h1 := h.1
    rw [Dts_take, List.length_take, List.length_take] at h1
    have hki : i ≤ (Dts L t L.length).length := by omega
    have h2 := full_drop ((Dts L t L.length).length - i) h.2
    rw [List.drop_drop, show i + ((Dts L t L.length).length - i) = (Dts L t L.length).length by omega, List.length_drop] at h2
    omega
theorem cut_from {α : Type} (xs : List α) (k : Nat) : cutL xs (some (k : Int)) none = xs.drop k := by
  unfold cutL
  rw [HT.sIx_nat, HT.sIx_none]
  by_cases h : k ≤ xs.length
  · rw [Nat.min_eq_left h, List.take_of_length_le (by rw [List.length_drop]; omega)]
  · rw [Nat.min_eq_right (by omega), List.drop_length, List.drop_eq_nil_of_le (by omega)]
    simp
theorem cut_to {α : Type} (xs : List α) (k : Nat) : cutL xs none (some (k : Int)) = xs.take k := by
  unfold cutL
  rw [HT.sIx_nat, HT.sIx_none, List.drop_zero, Nat.sub_zero]
  by_cases h : k ≤ xs.length
  · rw [Nat.min_eq_left h]
  · rw [Nat.min_eq_right (by omega), List.take_length, List.take_of_length_le (by omega)]
theorem cut_both {α : Type} (xs : List α) (k j : Nat) (h : k ≤ xs.length) : cutL xs (some (k : Int)) (some ((k : Int) + (j : Int))) = (xs.drop k).take j := by
  unfold cutL
  rw [show (k : Int) + (j : Int) = ((k + j : Nat) : Int) by omega, HT.sIx_nat, HT.sIx_nat, Nat.min_eq_left h]
  by_cases h2 : k + j ≤ xs.length
  · rw [Nat.min_eq_left h2, Nat.add_sub_cancel_left]
  · rw [Nat.min_eq_right (by omega), List.take_of_length_le (by rw [List.length_drop]; omega), List.take_of_length_le (by rw [List.length_drop]; omega)]
theorem natsD_len (l : List Nat) : (natsD l).length = l.length := by
  unfold natsD
  rw [List.length_map]
theorem natsD_app (l m : List Nat) : natsD (l ++ m) = natsD l ++ natsD m := by
  unfold natsD
  rw [List.map_append]
theorem natsD_tail (l : List Nat) : DL.cutD (natsD l) (some 1) none = natsD (l.drop 1) := by
  unfold natsD
  rw [cutD_map]
  exact congrArg _ (cut_from l 1)
theorem TrailOk.drop {h : List (List Int)} {t : List Int} (ht : TrailOk h t) {i : Nat} (hi : i < t.length) : TrailOk h (t.drop i) := by
  refine ⟨fun e => ?_, fun p hp => ht.2.1 p (List.mem_of_mem_drop hp), fun j p q hp hq => ?_⟩
  · have := congrArg List.length e
    rw [List.length_drop, List.length_nil] at this
    omega
  · rw [List.getElem?_drop] at hp hq
    exact ht.2.2 (i + j) p q hp hq
theorem TrailOk.take {h : List (List Int)} {t : List Int} (ht : TrailOk h t) {i : Nat} (hi : 0 < i) : TrailOk h (t.take i) := by
  refine ⟨fun e => ?_, fun p hp => ht.2.1 p (List.mem_of_mem_take hp), fun j p q hp hq => ?_⟩
  · have h1 := congrArg List.length e
    have h2 := List.length_pos_iff.mpr ht.1
    rw [List.length_take, List.length_nil] at h1
    omega
  · have hq1 := (List.getElem?_eq_some_iff.mp hq).1
    rw [List.length_take] at hq1
    rw [List.getElem?_take, if_pos (by omega)] at hp hq
    exact ht.2.2 j p q hp hq
theorem blD_yes : ∀ xs : List PyData, blD (xs.map fun _ => PyData.bool true) = some (List.replicate xs.length true)
  | [] => rfl
  | x :: r => by
    show (blD (r.map fun _ => PyData.bool true)).map (true :: ·) = _
    rw [blD_yes r]
    rfl
theorem all_yes (k : Nat) : ((List.replicate k true).all _root_.id) = true := by
  rw [List.all_replicate]
  simp
def trD (p : List Int) : PyData := .tuple (p.map PyData.int)
theorem natsD_okd {l : List Nat} (h : l.length ≤ 50000) : Okd 2 (.list (natsD l)) := (Okd.list (k := 0) (by rw [natsD_len]; exact h) natsD_ok).up
def addD (k : Nat) : PyData → PyData
  | .int i => .int ((k : Int) + i)
  | d => d
theorem natsD_add (k : Nat) (l : List Nat) : (natsD l).map (addD k) = natsD (l.map (k + ·)) := by
  unfold natsD
  rw [List.map_map, List.map_map]
  rfl
/-! ### what the program's own defs do -/
def con_dates : ConO Nat := fun as n P => ∃ (hd hsd td ad : PyData) (hs : List (List Int)) (t : List Int) (far : Nat), as = [.im hd, .im hsd, .im td, .im ad] ∧ RowsR hsd hs ∧ IntsR td t ∧ (ad = .none ∧ far = hs.length ∨ ∃ a : Nat, ad = .int (a : Int) ∧ far = min a hs.length) ∧ hs.length ≤ 1000 ∧ t.length ≤ 1000 ∧ P (.lst ((natsD (Dts hs t far)).map .dat)) n
def con_goes : Con := fun as n P => ∃ (hd hsd td : PyData) (hs : List (List Int)) (t : List Int), as = [.im hd, .im hsd, .im td] ∧ RowsR hsd hs ∧ IntsR td t ∧ hs.length ≤ 1000 ∧ t.length ≤ 1000 ∧ P (.bool (Goes hs t)) n
end K25

set_option Elab.async false
set_option linter.all false
set_option autoImplicit false
set_option maxRecDepth 100000
namespace K25
open PySem PySem.Spec PyProof.Rows L2 DL
local macro_rules | `(tactic| walk_at "dd") => `(tactic| simp only [dSeq, dIfS, dTst, dOp, dBx0, dBx1, dBx2, dC, fI_int, dAsg, dVar, dgName, dSb0, dSb2, dRet, dNext, en0, agSl, List.map_cons, List.map_nil, List.length_cons, List.length_nil, List.replicate, fPlus_ii, fPlus_ll, fPlus_tt, fPlus_ss, fTimes_ii, fTimes_li, List.cons_append, List.nil_append, List.getElem?_cons_zero, List.getElem?_cons_succ, Option.some.injEq, Sl.im.injEq, Sl.ow.injEq, exists_eq_left', exists_eq_left, true_and, and_true, PyData.bool.injEq, List.set_cons_zero, List.set_cons_succ, dCall, dCallD, dnCall, dnCallD, dnCallK, dStill, dRetO, dCons, dNil, dConsB, dCbQ, fLen, dSq, seqD_list, seqD_tuple, dIx, fIx_int, Prod.mk.injEq, dAsgO, dLst, agD, Option.map_some, dFor, dItS, dIns, dOwn, dFrz, dFz, dPar, dTup, dgTup, dgsCons, dgsNil, dRng, dRevR, dIf, dRgT, dRgL, dPass, dBrk, dApp, dSet, dEnum, dNotT, dAndT, dOrT, dNotV, dAndV, dOrV, dIsi, fAll, fAny, fSum, fTuple, dFq, dLc, dwipe, dYes, dListQ, dSortQ, dSortSet, dRepF, dCut, dNoP, dPt, dNeg, dTru, fIsN, fEq_int, fNe_int, decide_eq_true_eq, and_assoc, exists_and_left, Bool.false_eq_true, if_false, if_true, Bool.not_eq_true', decide_eq_false_iff_not, dIn])
def optD : Option Nat → PyData
  | some b => .int (b : Int)
  | none => .none
section
variable {P : Program} {w : World} {K : PySem.W.Frag} {mg : Str → Option Value} {base : Heap}
def con_latest_call : Con := fun as n P => ∃ (d : PyData) (hs : List (List Int)) (p : Int) (far : Nat), as = [.im d, .im (.int p), .im (.int (far : Int))] ∧ RowsR d hs ∧ far ≤ hs.length ∧ hs.length ≤ 1000 ∧ P (optD (lastB hs p far)) n
abbrev s_latest_call : Stmt := topS 11
theorem sc_latest_call : FnScope ["history", "person", "ahead", "beat"] ["history", "person", "ahead"] (defScope s_latest_call) := ⟨rfl, rfl, rfl, by decide +kernel, rfl, by decide +kernel, by decide +kernel⟩
-- calls: []; slots: [(0, 'history'), (1, 'person'), (2, 'ahead'), (3, 'beat')]
theorem ok_latest_call {f : Addr} {fd : FuncData} (F : Fun K "latest_call" "latest_call" s_latest_call f fd) (B : Bt mg) : FnOk P w K mg base CX0 1 f fd ["history", "person", "ahead"] (spD K 3 con_latest_call) := by
  refine def_ok F sc_latest_call rfl ?_
  intro cdv A outer s H E hr
  refine ⟨_, _, (dss_cons (ds_for PassesOwn.never rfl (di_revR (by rfl) B.reversed (by rfl) B.range (de_var 2)) (dg_name 3 sc_latest_call.nd rfl (.inl rfl)) (dss_one (ds_if (dt_in (de_var 1) (de_dq (de_ix (de_dq (de_var 0)) (de_var 3) (fun _ _ => rfl)))) (dss_one (ds_ret (de_var 3))) dss_nil)))
      (dss_one (ds_ret de_non))), fun as n P hl h => ?_⟩
  obtain ⟨d, hs, p, far, rfl, ⟨kk, ds, hsq, hdl, hrow⟩, hf, hl1, h⟩ := h
  walk_at "dd"
  refine ⟨by omega, by omega, ?_⟩
  rw [Int.toNat_natCast]
  refine for_ind (fun i ε m => ∃ x, ε = [Sl.im d, Sl.im (.int p), Sl.im (.int (far : Int)), x] ∧ lastB hs p far = lastB hs p (far - i) ∧ m = n) _ _ n 0 ⟨.no, rfl, rfl, rfl⟩ (fun j y ε m hj hI Y hY => ?_) (fun ε m hI => ?_)
  · obtain ⟨x, rfl, hL, rfl⟩ := hI
    obtain ⟨hj1, rfl⟩ := rgD_rev_get hj
    rw [Nat.zero_add] at hL
    obtain ⟨d', hd', k', hr'⟩ := hrow (far - 1 - j) (by omega)
    walk_at "dd"
    refine ⟨kk, ds, hsq, d', atI_nat hd', k', _, hr', _, rfl, _, vDs_int _, ?_⟩
    rw [inV_int]
    have e1 : far - j = (far - 1 - j) + 1 := by omega
    rw [e1, lastB_succ] at hL
    by_cases hp : p ∈ hs.getD (far - 1 - j) []
    · rw [if_pos (decide_eq_true hp)]
      rw [if_pos hp] at hL
      rw [hL] at h
      exact h
    · rw [if_neg (by rw [decide_eq_false hp]; decide)]
      rw [if_neg hp] at hL
      refine hY _ _ ⟨_, rfl, ?_, rfl⟩
      rw [hL, show far - (0 + j + 1) = far - 1 - j by omega]
  · obtain ⟨x, rfl, hL, rfl⟩ := hI
    rw [List.length_reverse, rgD_length, Nat.zero_add, Nat.sub_self] at hL
    walk_at "dd"
    rw [hL] at h
    exact h
abbrev s_dates : Stmt := topS 10
theorem sc_dates : FnScope ["hall", "history", "trail", "ahead", "beat", "found", "person"] ["hall", "history", "trail", "ahead"] (defScope s_dates) := ⟨rfl, rfl, rfl, by decide +kernel, rfl, by decide +kernel, by decide +kernel⟩
theorem ok_dates {f : Addr} {fd : FuncData} (F : Fun K "dates" "dates" s_dates f fd) (B : Bt mg) (F_latest_call : Kf P w K mg base "latest_call" 1 3 con_latest_call) : FnOk P w K mg base CX0 2 f fd ["hall", "history", "trail", "ahead"] (spO K 4 con_dates) := by
  refine def_okO F sc_dates rfl ?_
  intro cdv A outer s H E hr
  refine ⟨_, _, (dss_cons (ds_set 4 sc_dates.nd rfl (.inl rfl) (de_if (dt_isN (de_var 3) de_non) (de_len (by rfl) B.len (de_dq (de_var 1))) (de_min2 rfl (un65 hr) (by rfl) B.min (de_var 3) (de_len (by rfl) B.len (de_dq (de_var 1))))))
      (dss_cons (ds_setO 5 sc_dates.nd rfl (.inl rfl) (df_lst da_nil))
      (dss_cons (ds_for PassesOwn.never rfl (di_seq (de_var 2)) (dg_name 6 sc_dates.nd rfl (.inl rfl)) (dss_cons (ds_set 4 sc_dates.nd rfl (.inl rfl) (de_call F_latest_call (hr.mono (by decide)) (by rfl) (da_cons (de_var 1) (da_cons (de_var 6) (da_cons (de_var 4) da_nil)))))
      (dss_cons (ds_if (dt_isN (de_var 4) de_non) (dss_one ds_break) dss_nil)
      (dss_one (ds_append' 5 (de_var 4))))))
      (dss_one (ds_retO 5))))), fun as n P hl h => ?_⟩
  obtain ⟨hd, hsd, td, ad, hs, t, far, rfl, hR, ⟨tk, htk⟩, hA, hl1, hl2, h⟩ := h
  obtain ⟨kk, ds, hsq, hdl, hrow⟩ := id hR
  have hfar : far ≤ hs.length := by
    rcases hA with ⟨_, rfl⟩ | ⟨a, _, rfl⟩
    · exact Nat.le_refl _
    · exact Nat.min_le_right _ _
  have loop : forRun (dgName 6) (dSeq (dAsg (dCall 3 con_latest_call (dCons (dVar 1) (dCons (dVar 6) (dCons (dVar 4) dNil)))) (dgName 4)) (dSeq (dIfS (dTst (dOp (fIsN false) (dVar 4) (dC PyData.none))) dBrk dNext) (dApp 5 (dVar 4))))
      { nx := dRetO 5 { nx := fun x n => P (.dat PyData.none) n, rt := fun d n => P (.dat d) n, rf := P }, rt := fun d n => P (.dat d) n, rf := P } (t.map PyData.int) [Sl.im hd, Sl.im hsd, Sl.im td, Sl.im ad, Sl.im (PyData.int (far : Int)), Sl.ow [], Sl.no] n := by
    refine for_ind (fun i ε m => ∃ (fo : List Nat) (fa : Nat) (x : Sl), ε = [Sl.im hd, Sl.im hsd, Sl.im td, Sl.im ad, Sl.im (PyData.int (fa : Int)), Sl.ow (natsD fo), x] ∧ fa ≤ hs.length ∧ fo.length ≤ i ∧ Dts hs t far = fo ++ Dts hs (t.drop i) fa ∧ m = n) _ _ n 0 ⟨[], far, .no, rfl, hfar, Nat.le_refl _, rfl, rfl⟩ (fun j y ε m hj hI Y hY => ?_) (fun ε m hI => ?_)
    · obtain ⟨fo, fa, x1, rfl, hfa, hfo, hD, rfl⟩ := hI
      rw [List.getElem?_map] at hj
      cases hr : t[j]? with
      | none =>
        rw [hr] at hj
        cases hj
      | some p =>
        rw [hr] at hj
        cases hj
        have hjl := (List.getElem?_eq_some_iff.mp hr).1
        have e2 : t.drop j = p :: t.drop (j + 1) := by
          obtain ⟨hj', e⟩ := List.getElem?_eq_some_iff.mp hr
          rw [← e]
          exact List.drop_eq_getElem_cons hj'
        rw [Nat.zero_add, e2] at hD
        walk_at "dd"
        refine ⟨hsd, hs, p, fa, rfl, hR, hfa, hl1, ?_⟩
        cases hb : lastB hs p fa with
        | none =>
          rw [Dts_none hb, List.append_nil] at hD
          simp only [optD, isN, if_true]
          refine ⟨_, rfl, ?_⟩
          rw [← hD]
          exact h
        | some b =>
          have := lastB_lt hb
          simp only [optD, isN, Bool.false_eq_true, if_false]
          rw [Dts_some hb] at hD
          refine ⟨by rw [natsD_len]; omega, hY _ _ ⟨fo ++ [b], b, .im (.int p), ?_, by omega, by rw [List.length_append]; simp; omega, ?_, rfl⟩⟩
          · rw [natsD_app]
            rfl
          · rw [hD, List.append_assoc, Nat.zero_add]
            rfl
    · obtain ⟨fo, fa, x1, rfl, hfa, hfo, hD, rfl⟩ := hI
      rw [List.length_map, Nat.zero_add, List.drop_length] at hD
      refine ⟨_, _, rfl, rfl, ?_⟩
      rw [show Dts hs [] fa = [] from rfl, List.append_nil] at hD
      rw [← hD]
      exact h
  walk_at "dd"
  rcases hA with ⟨rfl, rfl⟩ | ⟨a, rfl, rfl⟩
  · rw [if_pos (show isN .none = true from rfl)]
    refine ⟨kk, ds, hsq, by decide, ?_⟩
    rw [htk, hdl]
    exact loop
  · rw [if_neg (show ¬ isN (.int (a : Int)) = true from Bool.false_ne_true)]
    simp only [dTwo]
    walk_at "dd"
    refine ⟨kk, ds, hsq, rfl, rfl, ⟨fun x hx y hy => ?_, fun x hx => ?_⟩, by decide, ?_⟩
    · simp only [List.mem_cons, List.not_mem_nil, or_false] at hx hy
      rcases hx with rfl | rfl <;> rcases hy with rfl | rfl <;> rfl
    · simp only [List.mem_cons, List.not_mem_nil, or_false] at hx
      rcases hx with rfl | rfl <;> (intro e; cases e)
    · rw [htk, PySem.W.dataLt_int, hdl]
      have e : (if decide ((hs.length : Int) < (a : Int)) = true then PyData.int (hs.length : Int) else PyData.int (a : Int)) = PyData.int ((min a hs.length : Nat) : Int) := by
        by_cases q : hs.length < a
        · rw [if_pos (decide_eq_true (by omega)), Nat.min_eq_right (by omega)]
        · rw [if_neg (by rw [decide_eq_true_eq]; omega), Nat.min_eq_left (by omega)]
      simp only [Bool.false_eq_true, if_false]
      rw [e]
      exact loop
end
end K25

set_option Elab.async false
set_option linter.all false
set_option autoImplicit false
set_option maxRecDepth 100000
namespace K25
open PySem PySem.Spec PyProof.Rows L2 DL
/-! ### common turns -/
theorem take_if {k : Int} {n : Nat} {A B : Nat → Prop} (h1 : 1 ≤ k) (h2 : k ≤ 1000000) (hn : n ≤ 1000000000) (hA : ∀ n', n' ≤ n + 1 → A n') (hB : ∀ n', n' ≤ n + 1 → B n') :
    con_law_take [.bx, .im (.int k)] n fun x n1 => fEq false x (.int 0) fun z => ∃ b, z = .bool b ∧ if b = true then A n1 else B n1 := by
  refine ⟨k, rfl, h1, h2, hn, fun q n' _ _ hn' => ?_⟩
  show fEq false (.int q) (.int 0) _
  rw [fEq_int]
  refine ⟨_, rfl, ?_⟩
  by_cases e : q = 0
  · rw [if_pos (by simpa using e)]
    exact hA n' hn'
  · rw [if_neg (by simpa using e)]
    exact hB n' hn'
theorem cutfrom {α : Type} (xs : List α) (k : Nat) : cutL xs (some (k : Int)) none = xs.drop k := by
  unfold cutL
  rw [HT.sIx_nat, HT.sIx_none]
  by_cases h : k ≤ xs.length
  · rw [Nat.min_eq_left h, List.take_of_length_le (by rw [List.length_drop]; omega)]
  · rw [Nat.min_eq_right (by omega), List.drop_length, List.drop_eq_nil_of_le (by omega)]
    simp
theorem cutto {α : Type} (xs : List α) (k : Nat) : cutL xs none (some (k : Int)) = xs.take k := by
  unfold cutL
  rw [HT.sIx_nat, HT.sIx_none, List.drop_zero, Nat.sub_zero]
  by_cases h : k ≤ xs.length
  · rw [Nat.min_eq_left h]
  · rw [Nat.min_eq_right (by omega), List.take_length, List.take_of_length_le (by omega)]
theorem cutboth {α : Type} (xs : List α) (k j : Nat) (h : k ≤ xs.length) : cutL xs (some (k : Int)) (some ((k : Int) + (j : Int))) = (xs.drop k).take j := by
  unfold cutL
  rw [show (k : Int) + (j : Int) = ((k + j : Nat) : Int) by omega, HT.sIx_nat, HT.sIx_nat, Nat.min_eq_left h]
  by_cases h2 : k + j ≤ xs.length
  · rw [Nat.min_eq_left h2, Nat.add_sub_cancel_left]
  · rw [Nat.min_eq_right (by omega), List.take_of_length_le (by rw [List.length_drop]; omega), List.take_of_length_le (by rw [List.length_drop]; omega)]
theorem cutlast {α : Type} (xs : List α) (x : α) : cutL (xs ++ [x]) (some (-1)) none = [x] := by
  unfold cutL
  have e : HT.sIx (xs ++ [x]).length 0 (some (-1)) = xs.length := by
    show (if (-1 : Int) < 0 then (-1 + ((xs ++ [x]).length : Int)).toNat else min (-1 : Int).toNat (xs ++ [x]).length) = _
    rw [if_pos (by decide), List.length_append, List.length_singleton]
    omega
  rw [e, HT.sIx_none, List.length_append, List.length_singleton, List.drop_left, Nat.add_sub_cancel_left]
  rfl
theorem asL_row (r : List Int) : asL 2 (rowD r) = .list (r.map PyData.int) := by
  show PyData.list ((r.map PyData.int).map (asL 1)) = _
  rw [List.map_map]
  rfl
theorem asl_hall (h : List (List Int)) : asL 3 (hallD h) = .list (h.map fun r => asL 2 (rowD r)) := by
  show PyData.list ((h.map rowD).map (asL 2)) = _
  rw [List.map_map]
  rfl
theorem asl_hist (h : List (List Int)) : asL 3 (.list (h.map rowD)) = .list (h.map fun r => asL 2 (rowD r)) := by
  show PyData.list ((h.map rowD).map (asL 2)) = _
  rw [List.map_map]
  rfl
theorem row_okd {m : Nat} {r : List Int} (h : Ris (m : Int) r) (hm : m ≤ 50000) : Okd 1 (rowD r) := Okd.tuple (by
    rw [List.length_map]
    have := ris_len r 0 m (by omega) h.1 h.2
    omega) fun x hx => by
  obtain ⟨b, _, rfl⟩ := List.mem_map.mp hx
  exact Okd.int _
theorem hall_okd {h : List (List Int)} (hH : IsHall h) (hl : h.length ≤ 100) : Okd 2 (hallD h) := Okd.tuple (by rw [List.length_map]; omega) fun x hx => by
  obtain ⟨r, hr, rfl⟩ := List.mem_map.mp hx
  exact row_okd (hH.2 r hr) (by omega)
theorem hist_okd {m : Nat} {h : List (List Int)} (hH : ∀ r ∈ h, Ris (m : Int) r) (hm : m ≤ 100) (hl : h.length ≤ 1000) : Okd 2 (.list (h.map rowD)) := Okd.list (by rw [List.length_map]; omega) fun x hx => by
  obtain ⟨r, hr, rfl⟩ := List.mem_map.mp hx
  exact row_okd (hH r hr) (by omega)
theorem rows_asl (h : List (List Int)) : RowsR (.list (h.map fun r => asL 2 (rowD r))) h := ⟨false, _, rfl, List.length_map _, fun i hi => ⟨asL 2 (rowD h[i]), by rw [List.getElem?_map, List.getElem?_eq_getElem hi]; rfl, by
  rw [asL_row, List.getD_eq_getElem?_getD, List.getElem?_eq_getElem hi]
  exact IntsR.lst _⟩⟩
theorem rows_hall (h : List (List Int)) : RowsR (hallD h) h := ⟨true, h.map rowD, rfl, List.length_map _, fun i hi => ⟨rowD h[i], by rw [List.getElem?_map, List.getElem?_eq_getElem hi]; rfl, by
  rw [List.getD_eq_getElem?_getD, List.getElem?_eq_getElem hi]
  exact IntsR.tup _⟩⟩
/-! ### how long halls and histories are shown -/
theorem shw_row {m : Nat} {r : List Int} (h : Ris (m : Int) r) (hm : m ≤ 8) : Shw 187 1 (rowD r) := Shw.tuple (m := 8) (L := 21) (k := 0) (by
    rw [List.length_map]
    have := ris_len r 0 m (by omega) h.1 h.2
    omega) fun x hx => by
  obtain ⟨b, hb, rfl⟩ := List.mem_map.mp hx
  have := h.2 b hb
  exact Shw.int (by omega)
theorem shw_hall {h : List (List Int)} (hH : IsHall h) (hl : h.length ≤ 8) : Shw 1515 2 (hallD h) := Shw.tuple (m := 8) (L := 187) (k := 1) (by rw [List.length_map]; exact hl) fun x hx => by
  obtain ⟨r, hr, rfl⟩ := List.mem_map.mp hx
  exact shw_row (hH.2 r hr) hl
theorem shw_hist {m : Nat} {h : List (List Int)} (hH : ∀ r ∈ h, Ris (m : Int) r) (hm : m ≤ 8) (hl : h.length ≤ 1000) : Shw 189002 2 (.list (h.map rowD)) := Shw.list (m := 1000) (L := 187) (k := 1) (by rw [List.length_map]; exact hl) fun x hx => by
  obtain ⟨r, hr, rfl⟩ := List.mem_map.mp hx
  exact shw_row (hH r hr) hm
end K25

set_option Elab.async false
set_option linter.all false
set_option autoImplicit false
set_option maxRecDepth 100000
namespace K25
open PySem PySem.Spec PyProof.Rows L2 DL
local macro_rules | `(tactic| walk_at "dd") => `(tactic| simp only [dSeq, dIfS, dTst, dOp, dBx0, dBx1, dBx2, dC, fI_int, dAsg, dVar, dgName, dSb0, dSb2, dRet, dNext, en0, agSl, List.map_cons, List.map_nil, List.length_cons, List.length_nil, List.replicate, fPlus_ii, fPlus_ll, fPlus_tt, fPlus_ss, fTimes_ii, fTimes_li, List.cons_append, List.nil_append, List.getElem?_cons_zero, List.getElem?_cons_succ, Option.some.injEq, Sl.im.injEq, Sl.ow.injEq, exists_eq_left', exists_eq_left, true_and, and_true, PyData.bool.injEq, List.set_cons_zero, List.set_cons_succ, dCall, dCons, dNil, dConsB, dCbQ, fLen, dSq, seqD_list, seqD_tuple, dIx, fIx_int, Prod.mk.injEq, dAsgO, dLst, agD, Option.map_some, dFor, dItS, dIns, dOwn, dFrz, dFz, dPar, dTup, dgTup, dgsCons, dgsNil, dRng, dIf, dRgT, dRgL, dPass, dApp, dSet, dEnum, dNotT, dAndT, dOrT, dNotV, dAndV, dOrV, dIsi, fAll, fAny, fSum, fTuple, dFq, dLc, dwipe, dYes, dListQ, dSortQ, dSortSet, dRepF, dCut, dNoP, dPt, dNeg, dTru, fIsN, fEq_int, fNe_int, decide_eq_true_eq, and_assoc, exists_and_left, Bool.false_eq_true, if_false, if_true, Bool.not_eq_true', decide_eq_false_iff_not, dIn, dInP, dPure, dpFld, dpBx, dPutP, dLenP, dAppP, dGetP, imS, drFld, drVar, dRd, dMethB, dMethR, dConsR, dCallNew, dnMake, dLsZip, dLsEnum, dLsZpM, dMaxD, dAugI, dAugT, dStd, dAsgN, dSetCallB, dDefB, dLenD, dTwo, dRev, dFoc, dnNewD, dInt, dAsgFO, dnLst, dRetN', dLstF, dDat, dStill, dnCall, dLook, dLookT, frzS, dAppN, dCallD, dCallK, fIsB, dParOF, dParFO, dParOO, fEqS_str, dgSeq, fTimesT_ti, dReprA, dChain, dBackT, dZip, dZip3, fRepr, dCall2New, sqD, dRetO])
/-! ### numbers, trails: of anything -/
def isNumB : PyData → Bool
  | .int i => decide (0 ≤ i)
  | _ => false
def isBelB (m : Int) (d : PyData) : Bool := match d with
  | .int i => decide (0 ≤ i ∧ i < m)
  | _ => false
def intD : PyData → Int
  | .int i => i
  | _ => 0
/-- each of these is seen by the one ahead of it -/
def chainB (h : List (List Int)) : List Int → Bool
  | a :: b :: r => decide (b ∈ h.getD a.toNat []) && chainB h (b :: r)
  | _ => true
def trailB (h : List (List Int)) : PyData → Bool
  | .tuple ds => !ds.isEmpty && ds.all (isBelB (h.length : Int)) && chainB h (ds.map intD)
  | _ => false
def linkF (h : List (List Int)) : PyData → PyData
  | .tuple [x, y] => .bool (decide (intD y ∈ h.getD (intD x).toNat []))
  | _ => .none
theorem isBel_int {m : Int} {d : PyData} (h : isBelB m d = true) : ∃ i : Int, d = .int i ∧ 0 ≤ i ∧ i < m := by
  cases d with
  | int i => exact ⟨i, rfl, of_decide_eq_true h⟩
  | _ => cases h
theorem links_eq (h : List (List Int)) : ∀ ds : List PyData, ∃ bs : List Bool, (List.zipWith (fun a b => PyData.tuple [a, b]) ds (ds.drop 1)).map (linkF h) = bs.map PyData.bool ∧ bs.all _root_.id = chainB h (ds.map intD)
  | [] => ⟨[], rfl, rfl⟩
  | [_] => ⟨[], rfl, rfl⟩
  | x :: y :: r => by
    obtain ⟨bs, e1, e2⟩ := links_eq h (y :: r)
    refine ⟨decide (intD y ∈ h.getD (intD x).toNat []) :: bs, ?_, ?_⟩
    · rw [List.map_cons, ← e1]
      rfl
    · rw [List.all_cons, e2]
      rfl
section
variable {P : Program} {w : World} {K : PySem.W.Frag} {mg : Str → Option Value} {base : Heap}
def con_is_number (S : Type) : ConS S := fun as n P => ∃ d : PyData, as = [.im d] ∧ P (.bool (isNumB d)) n
abbrev s_is_number : Stmt := topS 1
theorem sc_is_number : FnScope ["thing"] ["thing"] (defScope s_is_number) := ⟨rfl, rfl, rfl, by decide +kernel, rfl, by decide +kernel, by decide +kernel⟩
theorem ok_is_number {S : Type} [MOw S] {f : Addr} {fd : FuncData} (F : Fun K "is_number" "is_number" s_is_number f fd) (B : Bt mg) : FnOk P w K mg base CX0 1 f fd ["thing"] (spD (S := S) K 1 (con_is_number S)) := by
  refine def_ok F sc_is_number rfl ?_
  intro cdv A outer s H E hr
  refine ⟨_, _, (dss_one (ds_ret (de_and (de_isi kit_int (by rfl) B.isinstance (by rfl) B.int boot_int (de_var 0)) (de_and (de_not (de_isi kit_bool (by rfl) B.isinstance (by rfl) B.bool boot_bool (de_var 0))) (de_one (de_ge (de_var 0) de_int)))))), fun as n P hl h => ?_⟩
  obtain ⟨d, rfl, h⟩ := h
  walk_at "dd"
  cases d with
  | int i =>
    rw [if_pos (show isIntD (.int i) = true from rfl), if_pos (show isBoolD (.int i) = false from rfl)]
    exact ⟨trivial, h⟩
  | bool b =>
    rw [if_pos (show isIntD (.bool b) = true from rfl), if_neg (show ¬ isBoolD (.bool b) = false from fun z => nomatch z)]
    exact h
  | none => exact h
  | str _ => exact h
  | list _ => exact h
  | tuple _ => exact h
  | dict _ => exact h
def con_is_below (S : Type) : ConS S := fun as n P => ∃ (d : PyData) (m : Int), as = [.im d, .im (.int m)] ∧ P (.bool (isBelB m d)) n
abbrev s_is_number_below : Stmt := topS 2
theorem sc_is_number_below : FnScope ["thing", "many"] ["thing", "many"] (defScope s_is_number_below) := ⟨rfl, rfl, rfl, by decide +kernel, rfl, by decide +kernel, by decide +kernel⟩
theorem ok_is_number_below {S : Type} [MOw S] {f : Addr} {fd : FuncData} (F : Fun K "is_number_below" "is_number_below" s_is_number_below f fd) (B : Bt mg) (F_is_number : Kf P w K mg base "is_number" 1 1 (con_is_number S)) : FnOk P w K mg base CX0 2 f fd ["thing", "many"] (spD (S := S) K 2 (con_is_below S)) := by
  refine def_ok F sc_is_number_below rfl ?_
  intro cdv A outer s H E hr
  refine ⟨_, _, (dss_one (ds_ret (de_and (de_call F_is_number (hr.mono (by decide)) (by rfl) (da_cons (de_var 0) da_nil)) (de_one (de_lt (de_var 0) (de_var 1)))))), fun as n P hl h => ?_⟩
  obtain ⟨d, m, rfl, h⟩ := h
  walk_at "dd"
  refine ⟨d, rfl, _, rfl, ?_⟩
  cases d with
  | int i =>
    by_cases c : 0 ≤ i
    · rw [if_pos (show isNumB (.int i) = true from decide_eq_true c)]
      have e : isBelB m (.int i) = decide (i < m) := decide_eq_decide.mpr (by omega)
      rw [e] at h
      exact ⟨trivial, h⟩
    · rw [if_neg (show ¬ isNumB (.int i) = true by simpa [isNumB] using c)]
      have e : isBelB m (.int i) = false := decide_eq_false (by omega)
      rw [e] at h
      exact h
  | bool b => exact h
  | none => exact h
  | str _ => exact h
  | list _ => exact h
  | tuple _ => exact h
  | dict _ => exact h
def con_is_trail (S : Type) : ConS S := fun as n P => ∃ (d1 d : PyData) (h : List (List Int)), as = [.im d1, .im d] ∧ RowsR d1 h ∧ h.length ≤ 1000 ∧ (∀ k ds, seqD d = some (k, ds) → ds.length ≤ 1000) ∧ P (.bool (trailB h d)) n
abbrev s_is_trail : Stmt := topS 9
theorem sc_is_trail : FnScope ["hall", "thing", "one", "person", "seen"] ["hall", "thing"] (defScope s_is_trail) := ⟨rfl, rfl, rfl, by decide +kernel, rfl, by decide +kernel, by decide +kernel⟩
theorem ok_is_trail {S : Type} [MOw S] {f : Addr} {fd : FuncData} (F : Fun K "is_trail" "is_trail" s_is_trail f fd) (B : Bt mg) (F_is_number_below : Kf P w K mg base "is_number_below" 2 2 (con_is_below S)) : FnOk P w K mg base CX0 3 f fd ["hall", "thing"] (spD (S := S) K 2 (con_is_trail S)) := by
  refine def_ok F sc_is_trail rfl ?_
  intro cdv A outer s H E hr
  refine ⟨_, _, (dss_cons (ds_if (dw_dt (dw_or (dt_not (dt_val (de_isi kit_tuple (by rfl) B.isinstance (by rfl) B.tuple boot_tuple (de_var 1)))) (dw_or1 (dt_eq hr.units (de_len (by rfl) B.len (de_dq (de_var 1))) de_int)))) (dss_one (ds_ret de_bl)) dss_nil)
      (dss_cons (ds_if (dt_not (dt_val (de_all rfl (by rfl) B.all (df_dq (df_lc (own := [("one", 2)]) rfl sc_is_trail.nd (di_seq (de_var 1)) (blkOk_by (by kernel_rfl)) (fun _ _ _ _ _ => (dg_name 2 sc_is_trail.nd rfl (.inl rfl))) (fun _ _ _ _ _ => dts_nil) (fun _ _ _ _ _ => (de_call F_is_number_below (hr.mono (by decide)) (by rfl) (da_cons (de_var 2) (da_cons (de_len (by rfl) B.len (de_dq (de_var 0))) da_nil))))))))) (dss_one (ds_ret de_bl)) dss_nil)
      (dss_one (ds_ret (de_all rfl (by rfl) B.all (df_dq (df_lc (own := [("person", 3), ("seen", 4)]) rfl sc_is_trail.nd (di_zip' (by rfl) B.zip (de_var 1) (de_slice (de_dq (de_var 1)) (do_some de_int) do_none)) (blkOk_by (by kernel_rfl)) (fun _ _ _ _ _ => (dg_tup (n := 2) rfl (dgs_cons (dg_name 3 sc_is_trail.nd rfl (.inl rfl)) (dgs_cons (dg_name 4 sc_is_trail.nd rfl (.inl rfl)) dgs_nil)))) (fun _ _ _ _ _ => dts_nil) (fun _ _ _ _ _ => (de_in (de_var 4) (de_dq (de_ix (de_dq (de_var 0)) (de_var 3) (fun _ _ => rfl)))))))))))), fun as n P hl h => ?_⟩
  obtain ⟨d1, d, h0, rfl, ⟨k1, e1, hs1, hl1, hr1⟩, hH, hd, h⟩ := h
  walk_at "dd"
  cases d with
  | tuple ds =>
    have hdl := hd true ds rfl
    rw [if_neg (show ¬ isTupD (.tuple ds) = false from fun z => nomatch z)]
    refine ⟨true, ds, rfl, ?_⟩
    cases ds with
    | nil => exact h
    | cons x r =>
      rw [if_neg (by rw [List.length_cons]; omega)]
      show (x :: r).length ≤ 50000 ∧ lcRun _ _ _ _ _ (x :: r) [] n
      refine ⟨by omega, lc_map (fun z => .bool (isBelB (h0.length : Int) z)) n _ (fun z hz Y hY => ?_) ?_⟩
      · walk_at "dd"
        refine ⟨k1, e1, hs1, z, _, rfl, ?_⟩
        rw [hl1]
        exact hY
      · refine ⟨(x :: r).map (isBelB (h0.length : Int)), by rw [← blD_map, List.map_map]; rfl, ?_⟩
        rw [List.all_map]
        by_cases c : (x :: r).all (_root_.id ∘ isBelB (h0.length : Int)) = false
        · rw [if_pos c]
          have e : trailB h0 (.tuple (x :: r)) = false := by
            show (!(x :: r).isEmpty && (x :: r).all (isBelB (h0.length : Int)) && _) = false
            rw [show (x :: r).all (isBelB (h0.length : Int)) = false from c]
            rfl
          rw [e] at h
          exact h
        · rw [if_neg c]
          have c' : (x :: r).all (isBelB (h0.length : Int)) = true := by simpa using c
          refine ⟨true, _, rfl, ?_⟩
          obtain ⟨bs, f1, f2⟩ := links_eq h0 (x :: r)
          have ec : DL.cutD (x :: r) (some 1) none = (x :: r).drop 1 := by
            have := cutD_map (fun z : PyData => z) (x :: r) (some 1) none
            rw [List.map_id', List.map_id'] at this
            rw [this]
            exact cutfrom _ 1
          rw [if_pos rfl, ec]
          show (List.zipWith _ (x :: r) ((x :: r).drop 1)).length ≤ 50000 ∧ lcRun _ _ _ _ _ _ [] n
          refine ⟨by rw [List.length_zipWith]; omega, lc_map (linkF h0) n _ (fun z hz Y hY => ?_) ⟨bs, by rw [f1]; exact blD_map bs, ?_⟩⟩
          · obtain ⟨j, hj⟩ := List.getElem?_of_mem hz
            obtain ⟨a, b, g1, g2, rfl⟩ := DL.zip_get _ hj
            obtain ⟨a, rfl, ha0, ha1⟩ := isBel_int (List.all_eq_true.mp c' a (List.mem_of_getElem? g1))
            obtain ⟨b, rfl, hb0, hb1⟩ := isBel_int (List.all_eq_true.mp c' b (List.mem_of_mem_drop (List.mem_of_getElem? g2)))
            obtain ⟨d', m1, k2, m2⟩ := hr1 a.toNat (by omega)
            walk_at "dd"
            have hat : atI e1 a = some d' := by
              have := atI_nat m1
              rw [Int.toNat_of_nonneg ha0] at this
              exact this
            refine ⟨k1, e1, hs1, d', hat, k2, _, m2, .int b, rfl, _, vDs_int _, ?_⟩
            rw [inV_int]
            exact hY
          · rw [f2]
            have e : trailB h0 (.tuple (x :: r)) = chainB h0 ((x :: r).map intD) := by
              show (!(x :: r).isEmpty && (x :: r).all (isBelB (h0.length : Int)) && _) = _
              rw [c']
              rfl
            rw [e] at h
            exact h
  | int _ => exact h
  | bool _ => exact h
  | none => exact h
  | str _ => exact h
  | list _ => exact h
  | dict _ => exact h
end
end K25

set_option Elab.async false
set_option linter.all false
set_option autoImplicit false
set_option maxRecDepth 100000
namespace K25
open PySem PySem.Spec PyProof.Rows L2 DL
section
variable {P : Program} {w : World} {K : PySem.W.Frag} {mg : Str → Option Value} {base : Heap}
/-! ### the script's numbers behind the first ones are added on to these -/
def spFold (K : PySem.W.Frag) : Sp := fun vs H Q _ => ∃ (a : Addr) (ns : List Int) (m : Int), vs = [.ref a, .int m] ∧ SqL K H a (ns.map V.int) ∧ ns.length ≤ 63 ∧ 1 ≤ m ∧ m ≤ 8 ∧
  ∀ (p : Addr) (cs : List Int) (H' : Hp), Same H H' → H p = none → H' p = some (.lst (cs.map V.int)) → (cs.length : Int) ≤ m → Q (.ref p) H'
theorem cutV_map (ns : List Int) (lo hi : Option Int) : cutV (ns.map V.int) lo hi = (cutL ns lo hi).map V.int := by
  unfold cutV cutL
  rw [List.length_map, List.map_take, List.map_drop]
abbrev s_folded : Stmt := topS 19
theorem sc_folded : FnScope ["_law_script", "_law_many", "_law_cells", "_law_k", "_law_cell"] ["_law_script", "_law_many"] (defScope s_folded) := ⟨rfl, rfl, rfl, by decide +kernel, rfl, by decide +kernel, by decide +kernel⟩
theorem ok_folded {f : Addr} {fd : FuncData} (F : Fun K "_law_folded" "_law_folded" s_folded f fd) (B : Bt mg) : FnOk P w K mg base CX0 1 f fd ["_law_script", "_law_many"] (spFold K) := by
  refine F.ok sc_folded (fun vs H Q E h => ?_) (fun cdv A outer s H vs Q E hr h => ?_)
  · obtain ⟨a, ns, m, rfl, _⟩ := h
    rfl
  · obtain ⟨a, ns, m, rfl, hS, hl, hm1, hm8, q⟩ := h
    refine ⟨_, pss_cons (ps_set (i := 2) sc_folded.nd rfl (.inl rfl) (pe_callTy call_list_of (by rfl) B.list boot_list (pa_cons (pe_slice sl_list (pv 0) po_none (po_some (pv 1))) pa_nil)))
      (pss_cons (ps_for PassesOwn.never rfl (pi_enum (by rfl) B.enumerate (pa_cons (pe_slice sl_list (pv 0) (po_some (pv 1)) (po_some pe_int)) pa_nil)) (pg_tup rfl (pgs_cons (pg_name (i := 3) sc_folded.nd rfl (.inl rfl)) (pgs_cons (pg_name (i := 4) sc_folded.nd rfl (.inl rfl)) pgs_nil)))
        (pss_one (ps_asg (pe_op op_add (pe_ix ix_list (pv 2) (pe_op op_mod (pv 3) (pv 1)) (fun _ _ => rfl)) (pe_op op_mul (pv 4) (pe_op op_add (pv 3) pe_int))) (pg_sub (pv 2) (pe_op op_mod (pv 3) (pv 1)) set_list))))
      (pss_one (ps_ret (pv 2)))), ?_⟩
    refine ⟨.ref a, rfl, .int m, rfl, m, rfl, a, ns.map V.int, rfl, hS, fun p1 n1 => ⟨p1, _, rfl, .inl (.inl (.inl upd_same)), fun c nc => ?_⟩⟩
    have s1 : Same H (upd H p1 (.lst (cutV (ns.map V.int) none (some m)))) := same_new n1
    have s2 := s1.trans (same_new (o := .lst (cutV (ns.map V.int) none (some m))) nc)
    have hcH : H c = none := s1.free nc
    refine ⟨.ref a, rfl, .int m, rfl, m, rfl, 63, rfl, a, ns.map V.int, rfl, s2.seq hS, fun e ne => ⟨e, _, rfl, .inl (.inl upd_same), ?_⟩⟩
    have nce : c ≠ e := fun z => by
      rw [← z, upd_same] at ne
      cases ne
    have s3 := s2.trans (same_new (o := .lst (cutV (ns.map V.int) (some m) (some 63))) ne)
    have hlen : ∀ i : Nat, i < (cutL ns (some m) (some 63)).length → (m : Int) ≤ (ns.length : Int) := fun i hi => by
      unfold cutL at hi
      rw [List.length_take, List.length_drop] at hi
      have e1 : HT.sIx ns.length 0 (some m) = min m.toNat ns.length := by
        show (if m < 0 then (m + (ns.length : Int)).toNat else min m.toNat ns.length) = _
        rw [if_neg (by omega)]
      rw [e1] at hi
      omega
    have hcl : ((cutL ns none (some m)).length : Int) ≤ m := cutL_len ns (by omega)
    have hcm : (m : Int) ≤ (ns.length : Int) → ((cutL ns none (some m)).length : Int) = m := fun h => by
      unfold cutL
      have e1 : HT.sIx ns.length ns.length (some m) = min m.toNat ns.length := by
        show (if m < 0 then (m + (ns.length : Int)).toNat else min m.toNat ns.length) = _
        rw [if_neg (by omega)]
      rw [HT.sIx_none, e1, List.length_take, List.length_drop]
      omega
    obtain ⟨es, hes⟩ : ∃ es, cutL ns (some m) (some 63) = es := ⟨_, rfl⟩
    obtain ⟨c0, hc0⟩ : ∃ c0, cutL ns none (some m) = c0 := ⟨_, rfl⟩
    have he63 : es.length ≤ 63 := by
      rw [← hes]
      exact Nat.le_trans (cutL_sub ns _ _).length_le hl
    rw [hes] at hlen
    rw [hc0] at hcl hcm
    refine ⟨fun i k σ H3 => ∃ (y3 y4 : Option V) (cs : List Int), σ = [some (.ref a), some (.int m), some (.ref c), y3, y4] ∧ i + k = es.length ∧ Same H H3 ∧ H3 e = some (.lst (es.map V.int)) ∧ H3 c = some (.lst (cs.map V.int)) ∧ cs.length = c0.length,
      ⟨es.length, none, none, c0, rfl, by omega, s3, by rw [upd_same, cutV_map, hes], by rw [upd_ne nce, upd_same, cutV_map, hc0], rfl⟩, fun i k σ H3 hW => ?_⟩
    · obtain ⟨y3, y4, cs, rfl, hik, sm, he, hcc, hcs⟩ := hW
      have hE : SqL K H3 e (es.map V.int) := .inl (.inl he)
      by_cases hi : i < es.length
      · have g1 : (es.map V.int)[i]? = some (.int es[i]) := by
          rw [List.getElem?_map, List.getElem?_eq_getElem hi]
          rfl
        refine .inr ⟨⟨_, _, hE, g1⟩, fun σ' H' => ∃ (y3 y4 : Option V) (cs : List Int), σ' = [some (.ref a), some (.int m), some (.ref c), y3, y4] ∧ Same H H' ∧ H' e = some (.lst (es.map V.int)) ∧ H' c = some (.lst (cs.map V.int)) ∧ cs.length = c0.length, fun σ' H' hN => ?_, fun x H' hy => ?_⟩
        · obtain ⟨z3, z4, cs', e1, e2, e3, e4, e5⟩ := hN
          exact ⟨k - 1, by omega, z3, z4, cs', e1, by omega, e2, e3, e4, e5⟩
        · obtain ⟨T, x1, rfl, nT, rfl, f1⟩ := hy
          have ex : x1 = .int es[i] := Option.some.inj ((f1 _ hE).symm.trans g1)
          subst ex
          have nTc : c ≠ T := ne_of_none hcc nT
          have nTe : e ≠ T := ne_of_none he nT
          have hcT : (upd H3 T (.tup [.int ((i : Nat) : Int), .int es[i]])) c = some (.lst (cs.map V.int)) := by
            rw [upd_ne nTc]
            exact hcc
          have hml := hlen i hi
          have hcl2 := hcm hml
          have hmod0 : 0 ≤ ((i : Nat) : Int) % m := Int.emod_nonneg _ (by omega)
          have hmod1 : ((i : Nat) : Int) % m < m := Int.emod_lt_of_pos _ (by omega)
          have hjl : (((i : Nat) : Int) % m).toNat < cs.length := by omega
          have hix : ixN (cs.map V.int).length (((i : Nat) : Int) % m) = some (((i : Nat) : Int) % m).toNat := by
            unfold ixN
            rw [if_pos hmod0, if_pos (by rw [List.length_map]; omega)]
          have hat : atI (cs.map V.int) (((i : Nat) : Int) % m) = some (.int cs[(((i : Nat) : Int) % m).toNat]) := by
            unfold atI
            rw [hix]
            show (cs.map V.int)[(((i : Nat) : Int) % m).toNat]? = _
            rw [List.getElem?_map, List.getElem?_eq_getElem hjl]
            rfl
          refine ⟨T, _, rfl, .inl (.inl upd_same), rfl, _, _, rfl, _, [], rfl, rfl, ?_⟩
          refine ⟨.ref c, rfl, .int ((i : Nat) : Int), rfl, .int m, rfl, _, _, rfl, rfl, (by show (0 : Int) < m; omega), c, cs.map V.int, _, .int cs[(((i : Nat) : Int) % m).toNat], rfl, rfl, .inl (.inl hcT), ?_, ?_⟩
          · exact hat
          · refine ⟨.int es[i], rfl, .int ((i : Nat) : Int), rfl, _, _, rfl, rfl, _, _, rfl, rfl, .inr ⟨by omega, by omega⟩, _, _, rfl, rfl, .ref c, rfl, .int ((i : Nat) : Int), rfl, .int m, rfl, _, _, rfl, rfl, (by show (0 : Int) < m; omega), c, cs.map V.int, _, _, rfl, rfl, hcT, hix, ?_⟩
            refine ⟨some (.int ((i : Nat) : Int)), some (.int es[i]), cs.set (((i : Nat) : Int) % m).toNat (cs[(((i : Nat) : Int) % m).toNat] + es[i] * (((i : Nat) : Int) + 2)), rfl, fun b o hb => ?_, ?_, ?_, by rw [List.length_set]; exact hcs⟩
            · rw [upd_ne (ne_of_none hb hcH)]
              exact same_new nT b o (sm b o hb)
            · rw [upd_ne (Ne.symm nce), upd_ne nTe]
              exact he
            · rw [upd_same, List.map_set]
      · refine .inl ⟨⟨_, hE, by rw [List.length_map]; omega⟩, ?_⟩
        exact ⟨.ref c, rfl, q c cs H3 sm hcH hcc (by omega)⟩
/-! ### the box is made of a number -/
def spDip (K : PySem.W.Frag) : Sp := fun vs H Q _ => ∃ (a : Addr) (ns : List Int) (k : Nat), vs = [.ref a, .int (k : Int)] ∧ SqL K H a (ns.map V.int) ∧ k ≤ 63 ∧
  ∀ (b : Addr) (x y : Int), H b = none → 0 ≤ x → 0 ≤ y → y < 4611686018427387904 → Q (.ref b) (upd H b (.lst [.int x, .int y, .int 0]))
abbrev s_dip : Stmt := topS 17
theorem sc_dip : FnScope ["_law_script", "_law_k", "_law_cell"] ["_law_script", "_law_k"] (defScope s_dip) := ⟨rfl, rfl, rfl, by decide +kernel, rfl, by decide +kernel, by decide +kernel⟩
theorem ok_dip {f : Addr} {fd : FuncData} (F : Fun K "_law_dip" "_law_dip" s_dip f fd) (B : Bt mg) : FnOk P w K mg base CX0 1 f fd ["_law_script", "_law_k"] (spDip K) := by
  refine F.ok sc_dip (fun vs H Q E h => ?_) (fun cdv A outer s H vs Q E hr h => ?_)
  · obtain ⟨a, ns, k, rfl, _⟩ := h
    rfl
  · obtain ⟨a, ns, k, rfl, hS, hk, q⟩ := h
    refine ⟨_, pss_cons (ps_set (i := 2) sc_dip.nd rfl (.inl rfl) (pe_ifExp (pt_cmpR op_lt (pv 1) (pe_callB call_len_seq (by rfl) B.len PySem.boot_len (pa_cons (pv 0) pa_nil)) (nomark _)) (pe_ix ix_list (pv 0) (pv 1) (fun _ _ => rfl)) pe_int))
      (pss_one (ps_ret (pe_lst (pa_cons (pe_op op_mul (pe_callB call_abs (by rfl) B.abs boot_abs (pa_cons (pv 2) pa_nil)) (pe_callTy call_int1 (by rfl) B.int boot_int (pa_cons (pe_cmpR op_ge (pe_callB call_abs (by rfl) B.abs boot_abs (pa_cons (pv 2) pa_nil)) (pe_op op_pow pe_int pe_int) (nomark _)) pa_nil)))
        (pa_cons (pe_op op_add (pe_op op_add (pe_op op_mod (pv 2) pe_int) (pe_op op_mul pe_int (pv 1))) pe_int) (pa_cons pe_int pa_nil)))))), ?_⟩
    have fin : ∀ c : Int, ∀ v : V, v = .int c → tRet (tLst (tCons (tOp (rI CMul fun i j => .int (i * j)) (tCB (fun xs H Q => ∃ i, xs = [.int i] ∧ Q (.int (if i < 0 then -i else i)) H) (tCons (tVar 2) tNil)) (tCB (fun xs H Q => (∃ i, xs = [.int i] ∧ Q (.int i) H) ∨ ∃ k, xs = [.bl k] ∧ Q (.int (if k then 1 else 0)) H) (tCons (tOp (rI0 fun i j => .bl (decide (j ≤ i))) (tCB (fun xs H Q => ∃ i, xs = [.int i] ∧ Q (.int (if i < 0 then -i else i)) H) (tCons (tVar 2) tNil)) (tOp (rI CPow fun i j => .int (i ^ j.toNat)) (tC (.int 10)) (tC (.int 18)))) tNil)))
        (tCons (tOp (rI0 fun i j => .int (i + j)) (tOp (rI0 fun i j => .int (i + j)) (tOp (rI (fun _ j => 0 < j) fun i j => .int (i % j)) (tVar 2) (tC (.int 2305843009213693951))) (tOp (rI CMul fun i j => .int (i * j)) (tC (.int 39373)) (tVar 1))) (tC (.int 17))) (tCons (tC (.int 0)) tNil))))
        { nx := fun _ H' => Q .non H', rt := Q } [some (.ref a), some (.int (k : Int)), some v] H := fun c v ev => by
      subst ev
      have hm0 : 0 ≤ c % 2305843009213693951 := Int.emod_nonneg _ (by decide)
      have hm1 : c % 2305843009213693951 < 2305843009213693951 := Int.emod_lt_of_pos _ (by decide)
      have hbit : ∀ b : Bool, 0 ≤ (if b = true then (1 : Int) else 0) ∧ (if b = true then (1 : Int) else 0) ≤ 1 := by
        intro b
        cases b <;> decide
      refine ⟨_, rfl, c, rfl, _, rfl, c, rfl, _, _, rfl, rfl, ⟨by decide, by decide, by decide⟩, _, _, rfl, rfl, .inr ⟨_, rfl, _, _, rfl, rfl, .inr ?_, _, rfl, _, _, rfl, rfl, (by show (0 : Int) < 2305843009213693951; decide), _, rfl, _, _, rfl, rfl, .inl ⟨by decide, by decide⟩, _, _, rfl, rfl, _, _, rfl, rfl, (by show 3 ≤ sizeLine; decide), fun b hb => q b _ _ hb ?_ ?_ ?_⟩⟩
      · have := hbit (decide (10 ^ Int.toNat 18 ≤ if c < 0 then -c else c))
        exact ⟨by omega, by omega⟩
      · refine Int.mul_nonneg ?_ ?_
        · split <;> omega
        · exact (hbit _).1
      · omega
      · omega
    refine ⟨_, rfl, .ref a, rfl, a, _, rfl, .inl hS, _, _, rfl, rfl, _, rfl, ite2 (fun e => ?_) (fun e => ?_)⟩
    · have c := of_decide_eq_true e
      rw [List.length_map] at c
      have hk' : k < ns.length := by omega
      refine ⟨.ref a, rfl, .int (k : Int), rfl, a, _, _, .int ns[k], rfl, rfl, hS, atI_nat (j := k) ?_, fin ns[k] _ rfl⟩
      rw [List.getElem?_map, List.getElem?_eq_getElem hk']
      rfl
    · exact fin 0 _ rfl
/-! ### the law -/
def con_law_right : Con := fun as n P => as = [.bx] ∧ n ≤ 10 ∧ ∀ n' : Nat, P (.bool true) n'
def spLaw (K : PySem.W.Frag) : Sp := fun vs H Q _ => ∃ (a : Addr) (ns : List Int), vs = [.ref a] ∧ SqL K H a (ns.map V.int) ∧ ns.length ≤ 63 ∧ ∀ H', Q (.bl true) H'
abbrev s_law : Stmt := topS 33
theorem sc_law : FnScope ["_law_script", "_law_cells", "_law_k"] ["_law_script"] (defScope s_law) := ⟨rfl, rfl, rfl, by decide +kernel, rfl, by decide +kernel, by decide +kernel⟩
theorem seqL_grow {bo : Option Bo} {G H G' H' : Hp} (g : Grow bo G H G' H') {a : Addr} {xs : List V} (ha : ¬ Has bo a) (h : SqL K H a xs) : SqL K H' a xs := by
  rcases h with (h | ⟨o, h⟩) | h
  · exact .inl (.inl (g.kp a _ ha h))
  · exact .inl (.inr ⟨o, g.kp a _ ha h⟩)
  · exact .inr h
theorem ok_law {f fF fD fR : Addr} {fd fdF fdD fdR : FuncData} {kr : Nat} (F : Fun K "law" "law" s_law f fd) (B : Bt mg) (GF : FnOk P w K mg base CX0 1 fF fdF ["_law_script", "_law_many"] (spFold K)) (gF : mg "_law_folded" = some (.ref fF)) (kF : PySem.W.keepIn K (.ref fF) = true) (bF : Binds K fdF ["_law_script", "_law_many"] [])
    (GD : FnOk P w K mg base CX0 1 fD fdD ["_law_script", "_law_k"] (spDip K)) (gD : mg "_law_dip" = some (.ref fD)) (kD : PySem.W.keepIn K (.ref fD) = true) (bD : Binds K fdD ["_law_script", "_law_k"] [])
    (GR : FnOk P w K mg base CX0 (kr + 1) fR fdR ["_law_box"] (spD K 1 con_law_right)) (gR : mg "_law_right" = some (.ref fR)) (kR : PySem.W.keepIn K (.ref fR) = true) (bR : Binds K fdR ["_law_box"] []) :
    FnOk P w K mg base CX0 (kr + 2) f fd ["_law_script"] (spLaw K) := by
  refine F.ok sc_law (fun vs H Q E h => ?_) (fun cdv A outer s H vs Q E hr h => ?_)
  · obtain ⟨a, ns, rfl, _⟩ := h
    rfl
  · obtain ⟨a0, ns0, rfl, hS0, hl0, q⟩ := h
    refine ⟨_, pss_cons (ps_set (i := 1) sc_law.nd rfl (.inr rfl) (pe_call GF (hr.mono (by omega)) (by rfl) gF kF bF .nil pass0 (pa_cons (pv 0) (pa_cons pe_int pa_nil))))
      (pss_one (ps_ret (pe_callB (cr_all rfl) (by rfl) B.all boot_all (pa_cons (pe_lc (own := [("_law_k", 2)]) (g := gName 2) (tt := tYes) rfl sc_law.nd
        (pi_range1 (by rfl) B.range (pa_cons (pe_callB (call_max2 rfl) (by rfl) B.max boot_max (pa_cons pe_int (pa_cons (pe_callB call_len_seq (by rfl) B.len PySem.boot_len (pa_cons (pv 1) pa_nil)) pa_nil))) pa_nil))
        (blkOk_by (by kernel_rfl)) (fun _ _ _ _ _ => pg_name (i := 2) sc_law.nd rfl (.inl rfl)) (fun _ _ _ _ _ => pts_nil)
        (fun _ _ _ _ _ => pe_call GR hr (by rfl) gR kR bR .nil pass0 (pa_cons (pe_call GD (hr.mono (by omega)) (by rfl) gD kD bD .nil pass0 (pa_cons (pv 1) (pa_cons (pv 2) pa_nil))) pa_nil))) pa_nil)))), ?_⟩
    refine ⟨.ref a0, rfl, a0, ns0, _, rfl, hS0, hl0, by decide, by decide, fun a ns H1 sm na hc hns => ?_⟩
    have hS : SqL K H1 a (ns.map V.int) := .inl (.inl hc)
    refine ⟨.ref a, rfl, a, _, rfl, .inl hS, 1, _, rfl, _, rfl, ?_, ?_, fun D hD => ?_⟩
    · split <;> omega
    · rw [List.length_map]
      split <;> omega
    · have hA : a ≠ D := ne_of_none hc hD
      refine lc_range (lo := 0) (fun i H' => H' a = some (.lst (ns.map V.int)) ∧ H' D = some (.lst (List.replicate i (V.bl true)))) ⟨by rw [upd_ne hA]; exact hc, upd_same⟩ (fun i H' hi hp => ?_) (fun H' hp => ?_)
      · obtain ⟨p1, p2⟩ := hp
        have hi' : i ≤ 63 := by
          rw [List.length_map] at hi
          have h4 : (if (ns.length : Int) > 1 then (ns.length : Int) else 1).toNat ≤ 63 := by split <;> omega
          omega
        refine ⟨rfl, ?_⟩
        show tCall (spD K 1 con_law_right) [] E0 (tCons (tCall (spDip K) [] E0 (tCons (tVar 1) (tCons (tVar 2) tNil))) tNil) [some (.ref a0), some (.ref a), some (.int (0 + (i : Int)))] H' fun y H4 => ∃ acc, H4 D = some (.lst acc) ∧ acc.length < sizeLine ∧ upd H4 D (.lst (acc ++ [y])) a = some (.lst (ns.map V.int)) ∧ upd H4 D (.lst (acc ++ [y])) D = some (.lst (List.replicate (i + 1) (V.bl true)))
        rw [Int.zero_add]
        refine ⟨.ref a, rfl, .int (i : Int), rfl, a, ns, i, rfl, .inl (.inl p1), hi', fun b x y hb hx hy hy2 => ?_⟩
        have hbD : b ≠ D := fun z => by
          rw [z, p2] at hb
          cases hb
        have hba : b ≠ a := fun z => by
          rw [z, p1] at hb
          cases hb
        refine ⟨some ⟨b, [b]⟩, fun _ => none, [.bx], (0 : Nat), fun d _ => d = .bool true, rfl, .cons (a := .bx) ⟨⟨b, [b]⟩, rfl, rfl⟩ .nil, (fun _ _ z => by cases z), ⟨rfl, x, y, 0, upd_same, hx, hy, hy2, by decide, by decide⟩, (fun _ _ => rfl), ⟨rfl, by decide, fun _ => rfl⟩, fun v G' H2 d n' g' b' p' h' => ?_⟩
        subst h'
        cases p'
        have q1 : H2 a = some (.lst (ns.map V.int)) := g'.kp a _ (fun z => hba (List.mem_singleton.mp z).symm) (by rw [upd_ne (Ne.symm hba)]; exact p1)
        have q2 : H2 D = some (.lst (List.replicate i (V.bl true))) := g'.kp D _ (fun z => hbD (List.mem_singleton.mp z).symm) (by rw [upd_ne (Ne.symm hbD)]; exact p2)
        refine ⟨_, q2, szl (by rw [List.length_replicate]; omega), by rw [upd_ne hA]; exact q1, ?_⟩
        rw [upd_same, List.replicate_succ']
      · obtain ⟨p1, p2⟩ := hp
        refine ⟨D, _, rfl, .inl (.inl (p2.trans (by rw [List.map_replicate]))), ?_⟩
        rw [List.all_replicate]
        simp
        exact q _
end
end K25

set_option Elab.async false
set_option linter.all false
set_option autoImplicit false
set_option maxRecDepth 100000
namespace K25
open PySem PySem.Spec PyProof.Rows L2 DL
section
variable {P : Program} {w : World} {K : PySem.W.Frag} {mg : Str → Option Value} {base : Heap}
theorem ok_lawG {f fF fD fR : Addr} {fd fdF fdD fdR : FuncData} {kr : Nat} (F : Fun K "law" "law" s_law f fd) (B : Bt mg) (GF : FnOk P w K mg base CX0 1 fF fdF ["_law_script", "_law_many"] (spFold K)) (gF : mg "_law_folded" = some (.ref fF)) (kF : PySem.W.keepIn K (.ref fF) = true) (bF : Binds K fdF ["_law_script", "_law_many"] [])
    (GD : FnOk P w K mg base CX0 1 fD fdD ["_law_script", "_law_k"] (spDip K)) (gD : mg "_law_dip" = some (.ref fD)) (kD : PySem.W.keepIn K (.ref fD) = true) (bD : Binds K fdD ["_law_script", "_law_k"] [])
    (GR : FnG P w K mg base (kr + 1) fR fdR ["_law_box"] (spD K 1 con_law_right)) (gR : mg "_law_right" = some (.ref fR)) (kR : PySem.W.keepIn K (.ref fR) = true) (bR : Binds K fdR ["_law_box"] []) :
    FnG P w K mg base (kr + 2) f fd ["_law_script"] (spLaw K) := by
  refine DL.Fun.okG F sc_law (fun vs H Q E h => ?_) (fun cdv A outer s H vs Q E hgd hr h => ?_)
  · obtain ⟨a, ns, rfl, _⟩ := h
    rfl
  · obtain ⟨a0, ns0, rfl, hS0, hl0, q⟩ := h
    refine ⟨_, pss_cons (ps_set (i := 1) sc_law.nd rfl (.inr rfl) (pe_call GF (hr.mono (by omega)) (by rfl) gF kF bF .nil pass0 (pa_cons (pv 0) (pa_cons pe_int pa_nil))))
      (pss_one (ps_ret (pe_callB (cr_all rfl) (by rfl) B.all boot_all (pa_cons (pe_lc (own := [("_law_k", 2)]) (g := gName 2) (tt := tYes) rfl sc_law.nd
        (pi_range1 (by rfl) B.range (pa_cons (pe_callB (call_max2 rfl) (by rfl) B.max boot_max (pa_cons pe_int (pa_cons (pe_callB call_len_seq (by rfl) B.len PySem.boot_len (pa_cons (pv 1) pa_nil)) pa_nil))) pa_nil))
        (blkOk_by (by kernel_rfl)) (fun _ _ _ _ _ => pg_name (i := 2) sc_law.nd rfl (.inl rfl)) (fun _ _ _ _ _ => pts_nil)
        (fun _ _ _ _ _ => pe_callG GR hgd hr (by rfl) gR kR bR (pa_cons (pe_call GD (hr.mono (by omega)) (by rfl) gD kD bD .nil pass0 (pa_cons (pv 1) (pa_cons (pv 2) pa_nil))) pa_nil))) pa_nil)))), ?_⟩
    refine ⟨.ref a0, rfl, a0, ns0, _, rfl, hS0, hl0, by decide, by decide, fun a ns H1 sm na hc hns => ?_⟩
    have hS : SqL K H1 a (ns.map V.int) := .inl (.inl hc)
    refine ⟨.ref a, rfl, a, _, rfl, .inl hS, 1, _, rfl, _, rfl, ?_, ?_, fun D hD => ?_⟩
    · split <;> omega
    · rw [List.length_map]
      split <;> omega
    · have hA : a ≠ D := ne_of_none hc hD
      refine lc_range (lo := 0) (fun i H' => H' a = some (.lst (ns.map V.int)) ∧ H' D = some (.lst (List.replicate i (V.bl true)))) ⟨by rw [upd_ne hA]; exact hc, upd_same⟩ (fun i H' hi hp => ?_) (fun H' hp => ?_)
      · obtain ⟨p1, p2⟩ := hp
        have hi' : i ≤ 63 := by
          rw [List.length_map] at hi
          have h4 : (if (ns.length : Int) > 1 then (ns.length : Int) else 1).toNat ≤ 63 := by split <;> omega
          omega
        refine ⟨rfl, ?_⟩
        show tCall (spD K 1 con_law_right) [] E0 (tCons (tCall (spDip K) [] E0 (tCons (tVar 1) (tCons (tVar 2) tNil))) tNil) [some (.ref a0), some (.ref a), some (.int (0 + (i : Int)))] H' fun y H4 => ∃ acc, H4 D = some (.lst acc) ∧ acc.length < sizeLine ∧ upd H4 D (.lst (acc ++ [y])) a = some (.lst (ns.map V.int)) ∧ upd H4 D (.lst (acc ++ [y])) D = some (.lst (List.replicate (i + 1) (V.bl true)))
        rw [Int.zero_add]
        refine ⟨.ref a, rfl, .int (i : Int), rfl, a, ns, i, rfl, .inl (.inl p1), hi', fun b x y hb hx hy hy2 => ?_⟩
        have hbD : b ≠ D := fun z => by
          rw [z, p2] at hb
          cases hb
        have hba : b ≠ a := fun z => by
          rw [z, p1] at hb
          cases hb
        refine ⟨some ⟨b, [b]⟩, fun _ => none, [.bx], (0 : Nat), fun d _ => d = .bool true, rfl, .cons (a := .bx) ⟨⟨b, [b]⟩, rfl, rfl⟩ .nil, (fun _ _ z => by cases z), ⟨rfl, x, y, 0, upd_same, hx, hy, hy2, by decide, by decide⟩, (fun _ _ => rfl), ⟨rfl, by decide, fun _ => rfl⟩, fun v G' H2 d n' g' b' p' h' => ?_⟩
        subst h'
        cases p'
        have q1 : H2 a = some (.lst (ns.map V.int)) := g'.kp a _ (fun z => hba (List.mem_singleton.mp z).symm) (by rw [upd_ne (Ne.symm hba)]; exact p1)
        have q2 : H2 D = some (.lst (List.replicate i (V.bl true))) := g'.kp D _ (fun z => hbD (List.mem_singleton.mp z).symm) (by rw [upd_ne (Ne.symm hbD)]; exact p2)
        refine ⟨_, q2, szl (by rw [List.length_replicate]; omega), by rw [upd_ne hA]; exact q1, ?_⟩
        rw [upd_same, List.replicate_succ']
      · obtain ⟨p1, p2⟩ := hp
        refine ⟨D, _, rfl, .inl (.inl (p2.trans (by rw [List.map_replicate]))), ?_⟩
        rw [List.all_replicate]
        simp
        exact q _
end
end K25

set_option Elab.async false
set_option linter.all false
set_option autoImplicit false
set_option maxRecDepth 100000
namespace K25
open PySem PySem.Spec PyProof.Rows L2 DL
local macro_rules | `(tactic| walk_at "dd") => `(tactic| simp only [dSeq, dIfS, dTst, dOp, dBx0, dBx1, dBx2, dC, fI_int, dAsg, dVar, dgName, dSb0, dSb2, dRet, dNext, en0, agSl, List.map_cons, List.map_nil, List.length_cons, List.length_nil, List.replicate, fPlus_ii, fPlus_ll, fPlus_tt, fPlus_ss, fTimes_ii, fTimes_li, List.cons_append, List.nil_append, List.getElem?_cons_zero, List.getElem?_cons_succ, Option.some.injEq, Sl.im.injEq, Sl.ow.injEq, exists_eq_left', exists_eq_left, true_and, and_true, PyData.bool.injEq, List.set_cons_zero, List.set_cons_succ, dCall, dCons, dNil, dConsB, dCbQ, fLen, dSq, seqD_list, seqD_tuple, dIx, fIx_int, Prod.mk.injEq, dAsgO, dLst, agD, Option.map_some, dFor, dItS, dIns, dOwn, dFrz, dFz, dPar, dTup, dgTup, dgsCons, dgsNil, dRng, dIf, dRgT, dRgL, dPass, dApp, dSet, dEnum, dNotT, dAndT, dOrT, dNotV, dAndV, dOrV, dIsi, fAll, fAny, fSum, fTuple, dFq, dLc, dwipe, dYes, dListQ, dSortQ, dSortSet, dRepF, dCut, dNoP, dPt, dNeg, dTru, fIsN, fEq_int, fNe_int, decide_eq_true_eq, and_assoc, exists_and_left, Bool.false_eq_true, if_false, if_true, Bool.not_eq_true', decide_eq_false_iff_not, dIn, dInP, dPure, dpFld, dpBx, dPutP, dLenP, dAppP, dGetP, imS, drFld, drVar, dRd, dMethB, dMethR, dConsR, dCallNew, dnMake, dLsZip, dLsEnum, dLsZpM, dMaxD, dAugI, dAugT, dStd, dAsgN, dSetCallB, dDefB, dLenD, dTwo, dRev, dFoc, dnNewD, dInt, dAsgFO, dnLst, dRetN', dLstF, dDat, dStill, dnCall, dLook, dLookT, frzS, dAppN, dCallD, dCallK, fIsB, dParOF, dParFO, dParOO, fEqS_str, dgSeq, fTimesT_ti, dReprA, dChain, dBackT, dZip, dZip3, fRepr, dCall2New, sqD, dRetO, dInK, dGetK, dPutK, dLenK, dnNewK, dLockK, dItK, dInKR, dGetKR, dSortP, dSetCallBO, dIdx, dpVar, dFgt, dFoc1, dParFN, dAsgOO, dLc2, dLenSet, dInD, dSortT, dExt, dnDisp1, dnDc, dGetN, dInK, dPutK, dmCons, dmNil, dnCallK])
/-! ### what may stand in the place of a trail -/
def El (x : PyData) : Prop := (∃ i : Int, x = .int i ∧ i.natAbs ≤ 1000000) ∨ (∃ b : Bool, x = .bool b) ∨ x = .none ∨ x = .str "0" ∨ ∃ t : List Int, x = .tuple (t.map PyData.int) ∧ t.length ≤ 60 ∧ ∀ i ∈ t, i.natAbs ≤ 1000000
def Mat (d : PyData) : Prop := ∃ ds : List PyData, (d = .tuple ds ∨ d = .list ds) ∧ ds.length ≤ 120 ∧ ∀ x ∈ ds, El x
def Thg (d : PyData) : Prop := El d ∨ Mat d
theorem el_okd {x : PyData} (h : El x) : Okd 1 x := by
  rcases h with ⟨i, rfl, _⟩ | ⟨b, rfl⟩ | rfl | rfl | ⟨t, rfl, hl, _⟩
  · exact Okd.int _
  · exact Okd.bool _
  · exact Okd.none
  · exact Okd.scal ⟨by decide +kernel, by decide⟩
  · exact Okd.tuple (by rw [List.length_map]; omega) fun x hx => by
      obtain ⟨i, _, rfl⟩ := List.mem_map.mp hx
      exact Okd.int _
theorem el_shw {x : PyData} (h : El x) : Shw 1383 1 x := by
  rcases h with ⟨i, rfl, hi⟩ | ⟨b, rfl⟩ | rfl | rfl | ⟨t, rfl, hl, ht⟩
  · exact (Shw.int (by omega)).mono (by decide) (by decide)
  · exact (Shw.bool b).mono (by decide) (by decide)
  · exact Shw.none.mono (by decide) (by decide)
  · exact ⟨rfl, rfl, by decide, by decide +kernel⟩
  · exact (Shw.tuple (m := 60) (L := 21) (k := 0) (by rw [List.length_map]; exact hl) fun x hx => by
      obtain ⟨i, hi, rfl⟩ := List.mem_map.mp hx
      have := ht i hi
      exact Shw.int (by omega)).mono (by decide) (by decide)
theorem thg_okd {x : PyData} (h : Thg x) : Okd 2 x := by
  rcases h with h | ⟨ds, e, hl, h⟩
  · exact (el_okd h).up
  · rcases e with rfl | rfl
    · exact Okd.tuple (by omega) fun x hx => el_okd (h x hx)
    · exact Okd.list (by omega) fun x hx => el_okd (h x hx)
theorem thg_shows {x : PyData} (h : Thg x) : Shows x := by
  rcases h with h | ⟨ds, e, hl, h⟩
  · exact (el_shw h).shows (by decide) (by decide)
  · rcases e with rfl | rfl
    · exact (Shw.tuple hl fun x hx => el_shw (h x hx)).shows (by decide) (by decide)
    · exact (Shw.list hl fun x hx => el_shw (h x hx)).shows (by decide) (by decide)
theorem thg_len {x : PyData} (h : Thg x) : ∀ k ds, seqD x = some (k, ds) → ds.length ≤ 1000 := fun k ds e => by
  rcases h with h | ⟨es, e2, hl, h⟩
  · rcases h with ⟨i, rfl, hi⟩ | ⟨b, rfl⟩ | rfl | rfl | ⟨t, rfl, hl, _⟩ <;> cases e
    rw [List.length_map]
    omega
  · rcases e2 with rfl | rfl <;> cases e <;> omega
theorem thg_tup {t : List Int} (hl : t.length ≤ 120) (h : ∀ i ∈ t, i.natAbs ≤ 1000000) : Thg (.tuple (t.map PyData.int)) := .inr ⟨_, .inl rfl, by rw [List.length_map]; exact hl, fun x hx => by
  obtain ⟨i, hi, rfl⟩ := List.mem_map.mp hx
  exact .inl ⟨i, rfl, h i hi⟩⟩
theorem thg_lst {t : List Int} (hl : t.length ≤ 120) (h : ∀ i ∈ t, i.natAbs ≤ 1000000) : Thg (.list (t.map PyData.int)) := .inr ⟨_, .inr rfl, by rw [List.length_map]; exact hl, fun x hx => by
  obtain ⟨i, hi, rfl⟩ := List.mem_map.mp hx
  exact .inl ⟨i, rfl, h i hi⟩⟩
theorem thg_cut {t : List Int} (hl : t.length ≤ 120) (h : ∀ i ∈ t, i.natAbs ≤ 1000000) (lo hi : Option Int) : Thg (.tuple (DL.cutD (t.map PyData.int) lo hi)) := by
  rw [cutD_map]
  exact thg_tup (Nat.le_trans (cutL_sub t lo hi).length_le hl) fun i z => h i ((cutL_sub t lo hi).subset z)
theorem intD_map (t : List Int) : (t.map PyData.int).map intD = t := by
  rw [List.map_map]
  exact List.map_id _
/-- a trail from p to o that goes but for its last -/
def tOf : PyData → List Int
  | .tuple ds => ds.map intD
  | _ => []
def shownB (h hs : List (List Int)) (p o : Int) (d : PyData) : Bool := trailB h d && (decide ((tOf d).getD 0 0 = p) && (decide (lastP (tOf d) = o) && decide (((Dts hs (tOf d) hs.length).length : Int) = ((tOf d).length : Int) - 1)))
theorem trail_ints {h : List (List Int)} {d : PyData} (ht : trailB h d = true) : ∃ t : List Int, d = .tuple (t.map PyData.int) ∧ t ≠ [] ∧ tOf d = t := by
  cases d with
  | tuple ds =>
    have h2 : (!ds.isEmpty && ds.all (isBelB (h.length : Int)) && chainB h (ds.map intD)) = true := ht
    rw [Bool.and_eq_true, Bool.and_eq_true] at h2
    obtain ⟨⟨h3, h4⟩, _⟩ := h2
    have e : ds = (ds.map intD).map PyData.int := by
      rw [List.map_map]
      conv => lhs; rw [← List.map_id ds]
      refine List.map_congr_left fun x hx => ?_
      obtain ⟨i, rfl, _⟩ := isBel_int (List.all_eq_true.mp h4 x hx)
      rfl
    refine ⟨ds.map intD, by rw [← e], fun z => ?_, rfl⟩
    rw [e, z] at h3
    cases h3
  | _ => cases ht
theorem atI_first {t : List Int} (h : t ≠ []) : atI (t.map PyData.int) 0 = some (.int (t.getD 0 0)) := by
  cases t with
  | nil => exact absurd rfl h
  | cons x t => exact atI_nat (j := 0) rfl
theorem atI_end {t : List Int} (h : t ≠ []) : atI (t.map PyData.int) (-1) = some (.int (lastP t)) := by
  have e := List.dropLast_concat_getLast h
  have el : lastP t = t.getLast h := by unfold lastP; rw [List.getLast?_eq_some_getLast h]; rfl
  rw [el]
  conv => lhs; rw [← e]
  rw [List.map_append]
  exact atI_last _ _
/-- the values of the dict told -/
theorem putVI_all {Pr : PyData → Prop} : ∀ {ks : List Int} {es : List PyData} {i : Int} {d : PyData}, (∀ e ∈ es, Pr e) → Pr d → ∀ e ∈ putVI ks es i d, Pr e
  | [], _, _, _, _, hd, e, he => by
    simp only [putVI] at he
    rw [List.mem_singleton.mp he]
    exact hd
  | _ :: _, [], _, _, _, hd, e, he => by
    simp only [putVI] at he
    rw [List.mem_singleton.mp he]
    exact hd
  | k :: ks, x :: es, i, d, h, hd, e, he => by
    simp only [putVI] at he
    split at he
    · rcases List.mem_cons.mp he with rfl | he
      · exact hd
      · exact h e (List.mem_cons_of_mem _ he)
    · rcases List.mem_cons.mp he with rfl | he
      · exact h _ List.mem_cons_self
      · exact putVI_all (fun y hy => h y (List.mem_cons_of_mem _ hy)) hd e he
theorem hgF_all {b : Bk} {Pr : PyData → Prop} : ∀ (Q : List (List Int × Nat)) {ks : List Int} {es : List PyData}, (∀ e ∈ es, Pr e) → (∀ q ∈ Q, Pr (DL.tupD q.1)) → ∀ e ∈ (hgF b Q ks es).2, Pr e
  | [], _, _, h, _ => h
  | q :: Q, ks, es, h, hq => by
    unfold hgF
    split
    · exact hgF_all Q (putVI_all h (hq q List.mem_cons_self)) fun x hx => hq x (List.mem_cons_of_mem _ hx)
    · exact hgF_all Q h fun x hx => hq x (List.mem_cons_of_mem _ hx)
theorem lookI_mem {es : List PyData} : ∀ {ks : List Int} {i : Int} {d : PyData}, lookI ks es i = some d → d ∈ es := by
  induction es with
  | nil =>
    intro ks i d h
    cases ks <;> simp [lookI] at h
  | cons e es ih =>
    intro ks i d h
    cases ks with
    | nil => simp [lookI] at h
    | cons k ks =>
      simp only [lookI] at h
      split at h
      · cases h
        exact List.mem_cons_self
      · exact List.mem_cons_of_mem _ (ih h)
theorem hg_val {h hs : List (List Int)} (hH : HallOk h) (h1 : HistOk h hs) {p : Nat} (hp : p < h.length) (o : Int) : (lookI (hgK h hs p) (hgE h hs p) o).getD .none = .none ∨ ∃ t : List Int, (lookI (hgK h hs p) (hgE h hs p) o).getD .none = .tuple (t.map PyData.int) ∧ t ≠ [] ∧ t.length ≤ h.length + callsN hs ∧ ∀ x ∈ t, 0 ≤ x ∧ x < (h.length : Int) := by
  cases e : lookI (hgK h hs p) (hgE h hs p) o with
  | none => exact .inl rfl
  | some d =>
    refine .inr ?_
    have hH0 : ∀ r ∈ h, ∀ s ∈ r, 0 ≤ s ∧ s < (h.length : Int) := fun r hr => (hH.1 r hr).2
    obtain ⟨r1, r2, r3⟩ := runR_G hH0 hs ⟨h.length, []⟩ (List.range h.length) (leaves h) h1.1 (bkg0 _) (range_T rfl)
    have r1' : BkG (endB h ⟨h.length, []⟩ hs) := r1
    have r3' : TSl h (endB h ⟨h.length, []⟩ hs) (lastS h ⟨h.length, []⟩ hs) (hs.foldl (stepT h) (leaves h)) := r3
    obtain ⟨f1, f2, f3⟩ := endB_all (h := h) (b := ⟨h.length, []⟩) hs rfl
    have ok := runQ_ok hH0 r1' hp (r3'.at_ p hp).1 ((hgB h hs).nh + (hgB h hs).es.length)
    have hl := ok.len
    simp only [List.length_nil, Nat.zero_add] at f2
    have hall : ∀ e ∈ hgE h hs p, ∃ t : List Int, e = .tuple (t.map PyData.int) ∧ t ≠ [] ∧ t.length ≤ h.length + callsN hs ∧ ∀ x ∈ t, 0 ≤ x ∧ x < (h.length : Int) := hgF_all _ (fun e he => by cases he) fun q hq => by
      obtain ⟨j, hj⟩ := List.getElem?_of_mem hq
      obtain ⟨z1, z2, z3, t, s, et, _⟩ := ok.at_ j q hj
      have hj' := (List.getElem?_eq_some_iff.mp hj).1
      have hj2 : j < (runQ h (endB h ⟨h.length, []⟩ hs) p ((lastS h ⟨h.length, []⟩ hs).getD p 0) ((hgB h hs).nh + (hgB h hs).es.length)).length := hj'
      exact ⟨q.1, rfl, by rw [et]; simp, by omega, z3⟩
    exact hall d (lookI_mem e)
section
variable {P : Program} {w : World} {K : PySem.W.Frag} {mg : Str → Option Value} {base : Heap}
def con_hanging_trail (S : Type) : ConS S := fun as n P => ∃ (d1 d2 : PyData) (h hs : List (List Int)) (p : Nat) (o : Int), as = [.im d1, .im d2, .im (.int (p : Int)), .im (.int o)] ∧ RowsR d1 h ∧ RowsR d2 hs ∧ HallOk h ∧ HistOk h hs ∧ p < h.length ∧ P ((lookI (hgK h hs p) (hgE h hs p) o).getD .none) n
abbrev s_hanging_trail : Stmt := topS 13
theorem sc_hanging_trail : FnScope ["hall", "history", "person", "other"] ["hall", "history", "person", "other"] (defScope s_hanging_trail) := ⟨rfl, rfl, rfl, by decide +kernel, rfl, by decide +kernel, by decide +kernel⟩
theorem ok_hanging_trail {S : Type} [MOw S] {f : Addr} {fd : FuncData} (F : Fun K "hanging_trail" "hanging_trail" s_hanging_trail f fd) (B : Bt mg) (F_hanging_trails : KfO P w K mg base "hanging_trails" 4 3 (con_hanging_trails S)) : FnOk P w K mg base CX0 5 f fd ["hall", "history", "person", "other"] (spD (S := S) K 4 (con_hanging_trail S)) := by
  refine def_ok F sc_hanging_trail rfl ?_
  intro cdv A outer s H E hr
  refine ⟨_, _, (dss_one (ds_ret (de_getN hr.units (dn_call F_hanging_trails (hr.mono (by decide)) (by rfl) (da_cons (de_var 0) (da_cons (de_var 1) (da_cons (de_var 2) da_nil)))) (de_var 3) ⟨rfl, rfl, rfl, rfl⟩))), fun as n P hl h => ?_⟩
  obtain ⟨d1, d2, h0, hs, p, o, rfl, q1, q2, q3, q4, hp, h⟩ := h
  walk_at "dd"
  exact ⟨d1, d2, h0, hs, p, rfl, q1, q2, q3, q4, hp, _, _, rfl, _, rfl, h⟩
def con_shows_hanging : Con := fun as n P => ∃ (d1 d2 d : PyData) (h hs : List (List Int)) (p o : Int), as = [.im d1, .im d2, .im (.int p), .im (.int o), .im d] ∧ RowsR d1 h ∧ RowsR d2 hs ∧ h.length ≤ 1000 ∧ hs.length ≤ 1000 ∧ (∀ k ds, seqD d = some (k, ds) → ds.length ≤ 1000) ∧ P (.bool (shownB h hs p o d)) n
abbrev s_shows_hanging : Stmt := topS 15
theorem sc_shows_hanging : FnScope ["hall", "history", "person", "other", "thing"] ["hall", "history", "person", "other", "thing"] (defScope s_shows_hanging) := ⟨rfl, rfl, rfl, by decide +kernel, rfl, by decide +kernel, by decide +kernel⟩
theorem ok_shows_hanging {dvs : List V} {f : Addr} {fd : FuncData} (F : Fun K "shows_hanging" "shows_hanging" s_shows_hanging f fd) (B : Bt mg) (F_dates_d3 : KdO P w K mg base "dates" 2 4 con_dates dvs [.im .none]) (F_is_trail : Kf P w K mg base "is_trail" 3 2 (con_is_trail Nat)) : FnOk P w K mg base CX0 4 f fd ["hall", "history", "person", "other", "thing"] (spD K 5 con_shows_hanging) := by
  refine def_ok F sc_shows_hanging rfl ?_
  intro cdv A outer s H E hr
  refine ⟨_, _, (dss_cons (ds_if (dw_dt (dw_or (dt_not (dt_val (de_call F_is_trail (hr.mono (by decide)) (by rfl) (da_cons (de_var 0) (da_cons (de_var 4) da_nil))))) (dw_or (dt_ne hr.units (de_ix (de_dq (de_var 4)) de_int (fun _ _ => rfl)) (de_var 2)) (dw_or1 (dt_ne hr.units (de_ix (de_dq (de_var 4)) (de_neg de_int) (fun _ _ => rfl)) (de_var 3)))))) (dss_one (ds_ret de_bl)) dss_nil)
      (dss_one (ds_ret (de_eq hr.units (de_len (by rfl) B.len (de_dq (dn_still (dn_callD F_dates_d3 (hr.mono (by decide)) (by rfl) (da_cons (de_var 0) (da_cons (de_var 1) (da_cons (de_var 4) da_nil))))))) (de_sub (de_len (by rfl) B.len (de_dq (de_var 4))) de_int))))), fun as n P hl h => ?_⟩
  obtain ⟨d1, d2, d, h0, hs, p, o, rfl, q1, q2, hl1, hl2, hd, h⟩ := h
  walk_at "dd"
  refine ⟨d1, d, h0, rfl, q1, hl1, hd, _, rfl, ?_⟩
  cases ht : trailB h0 d with
  | false =>
    rw [if_pos rfl]
    unfold shownB at h
    rw [ht, Bool.false_and] at h
    exact h
  | true =>
    rw [if_neg (by decide)]
    obtain ⟨t, rfl, htn, hto⟩ := trail_ints ht
    have htl := hd true _ rfl
    rw [List.length_map] at htl
    refine ⟨true, _, rfl, _, atI_first htn, ?_⟩
    rw [fNe_int]
    refine ⟨_, rfl, ?_⟩
    unfold shownB at h
    rw [ht, hto, Bool.true_and] at h
    by_cases c1 : t.getD 0 0 = p
    · rw [if_neg (by simpa using c1)]
      rw [decide_eq_true c1, Bool.true_and] at h
      refine ⟨true, _, rfl, _, atI_end htn, ?_⟩
      rw [fNe_int]
      refine ⟨_, rfl, ?_⟩
      by_cases c2 : lastP t = o
      · rw [if_neg (by simpa using c2)]
        rw [decide_eq_true c2, Bool.true_and] at h
        simp only [dnCallD]
        walk_at "dd"
        refine ⟨d1, d2, _, .none, hs, t, hs.length, rfl, q2, IntsR.tup t, .inl ⟨rfl, rfl⟩, hl2, htl, ?_⟩
        refine ⟨_, toD_dats _, false, _, rfl, ?_⟩
        have el : (natsD (Dts hs t hs.length)).length = (Dts hs t hs.length).length := by
          unfold natsD
          rw [List.length_map]
        rw [el, List.length_map]
        exact h
      · rw [if_pos (by simpa using c2)]
        rw [decide_eq_false c2, Bool.false_and] at h
        exact h
    · rw [if_pos (by simpa using c1)]
      rw [decide_eq_false c1, Bool.false_and] at h
      exact h
def con_law_walk4 : Con := fun as n P => ∃ (h : List (List Int)) (p m : Int), as = [.bx, .im (hallD h), .im (.int p), .im (.int m)] ∧ IsHall h ∧ h.length ≤ 100 ∧ 0 ≤ p ∧ p < (h.length : Int) ∧ 1 ≤ m ∧ m ≤ 500 ∧ n ≤ 90000000 ∧ ∀ (t : List Int) (n' : Nat), TrailOk h t → (t.length : Int) ≤ m → n' ≤ n + 1000 → P (.tuple (t.map PyData.int)) n'
abbrev s_law_walk : Stmt := topS 30
theorem sc_law_walk : FnScope ["_law_box", "_law_hall_here", "_law_person", "_law_long", "_law_found", "_law_turn"] ["_law_box", "_law_hall_here", "_law_person", "_law_long"] (defScope s_law_walk) := ⟨rfl, rfl, rfl, by decide +kernel, rfl, by decide +kernel, by decide +kernel⟩
theorem ok_law_walk4 {f : Addr} {fd : FuncData} (F : Fun K "_law_walk" "_law_walk" s_law_walk f fd) (B : Bt mg) (F_law_one_of : Kf P w K mg base "_law_one_of" 2 2 con_law_one_of) (F_law_take : Kf P w K mg base "_law_take" 1 2 con_law_take) : FnOk P w K mg base CX0 3 f fd ["_law_box", "_law_hall_here", "_law_person", "_law_long"] (spD K 4 con_law_walk4) := by
  refine def_ok F sc_law_walk rfl ?_
  intro cdv A outer s H E hr
  refine ⟨_, _, (dss_cons (ds_setO 4 sc_law_walk.nd rfl (.inl rfl) (df_lst (da_cons (de_var 2) da_nil)))
      (dss_cons (ds_for PassesOwn.never rfl (di_range (by rfl) B.range (de_call F_law_take (hr.mono (by decide)) (by rfl) (da_box 0 (da_cons (de_var 3) da_nil)))) (dg_name 5 sc_law_walk.nd rfl (.inl rfl)) (dss_one (ds_if (dt_gt (de_len (by rfl) B.len (de_dq (de_ix (de_dq (de_var 1)) (de_ix (dq_own 4) (de_neg de_int) (fun _ _ => rfl)) (fun _ _ => rfl)))) de_int) (dss_one (ds_append' 4 (de_call F_law_one_of (hr.mono (by decide)) (by rfl) (da_box 0 (da_cons (df_de (df_list (by rfl) B.list (de_dq (de_ix (de_dq (de_var 1)) (de_ix (dq_own 4) (de_neg de_int) (fun _ _ => rfl)) (fun _ _ => rfl))))) da_nil))))) dss_nil)))
      (dss_frz 4 (dss_one (ds_ret (de_tuple (by rfl) B.tuple (de_dq (de_var 4)))))))), fun as n P hl h => ?_⟩
  obtain ⟨hh, p0, m, rfl, hH, hl1, hp0, hp1, hm1, hm2, hn, h⟩ := h
  walk_at "dd"
  have hl0 : 1 ≤ hh.length := List.length_pos_iff.mpr hH.1
  refine ⟨by decide, _, rfl, hm1, by omega, by omega, fun k n2 hk0 hk1 hn2 => ?_⟩
  refine ⟨by omega, by omega, ?_⟩
  refine for_ind (fun i ε m' => ∃ (t : List Int) (x : Sl), ε = [Sl.bx, Sl.im (hallD hh), Sl.im (.int p0), Sl.im (.int m), Sl.ow (t.map PyData.int), x] ∧ TrailOk hh t ∧ t.length ≤ i + 1 ∧ m' ≤ n2 + i) _ _ n2 0 ⟨[p0], .no, rfl, .one hp0 hp1, Nat.le_refl _, Nat.le_refl _⟩ (fun j y ε m' hj hI Y hY => ?_) (fun ε m' hI => ?_)
  · obtain ⟨t, x, rfl, ht, htl, hm'⟩ := hI
    obtain ⟨hj1, rfl⟩ := rgD_get hj
    have hne := ht.1
    obtain ⟨ys, p, rfl⟩ : ∃ ys p, t = ys ++ [p] := ⟨t.dropLast, t.getLast hne, (List.dropLast_concat_getLast hne).symm⟩
    have hp := ht.2.1 p (by simp)
    have hp2 : p.toNat < hh.length := by omega
    have hpe : (p.toNat : Int) = p := Int.toNat_of_nonneg hp.1
    have hg : hh.getD p.toNat [] = hh[p.toNat] := by rw [List.getD_eq_getElem?_getD, List.getElem?_eq_getElem hp2]; rfl
    have hrow := hH.2 hh[p.toNat] (List.getElem_mem _)
    have hat : atI ((ys ++ [p]).map PyData.int) (-1) = some (.int p) := by
      rw [List.map_append]
      exact atI_last _ _
    have hat2 : atI (hh.map rowD) p = some (rowD hh[p.toNat]) := by
      have hx := atI_nat (xs := hh.map rowD) (j := p.toNat) (v := rowD hh[p.toNat]) (by rw [List.getElem?_map, List.getElem?_eq_getElem hp2]; rfl)
      rw [hpe] at hx
      exact hx
    have hrl : (hh[p.toNat].length : Int) ≤ (hh.length : Int) - 0 := ris_len _ 0 _ (by omega) hrow.1 hrow.2
    walk_at "dd"
    refine ⟨true, hh.map rowD, rfl, _, hat, ?_⟩
    simp only [fIx_int]
    refine ⟨_, hat2, true, _, rfl, ?_⟩
    rw [List.length_map]
    by_cases h0 : 0 < (hh[p.toNat].length : Int)
    · rw [if_pos h0]
      refine ⟨true, hh.map rowD, rfl, _, hat, ?_⟩
      simp only [fIx_int]
      refine ⟨_, hat2, true, _, rfl, ?_⟩
      refine ⟨_, false, _, rfl, rfl, ?_, by rw [List.length_map]; omega, by omega, fun x hx n3 hn3 => ?_⟩
      · intro e
        have e' := congrArg List.length e
        rw [List.length_map] at e'
        simp only [List.length_nil] at e'
        omega
      · obtain ⟨q, hq, rfl⟩ := List.mem_map.mp hx
        have hq2 := hrow.2 q hq
        refine ⟨by rw [List.length_map]; omega, hY _ _ ⟨ys ++ [p] ++ [q], .im (.int (j : Int)), ?_, ht.snoc (by rw [hg]; exact hq) hq2.1 hq2.2, by rw [List.length_append, List.length_singleton]; omega, by omega⟩⟩
        · rw [List.map_append (l₁ := ys ++ [p])]
          rfl
    · rw [if_neg h0]
      exact hY _ _ ⟨ys ++ [p], .im (.int (j : Int)), rfl, ht, by omega, by omega⟩
  · obtain ⟨t, x, rfl, ht, htl, hm'⟩ := hI
    walk_at "dd"
    rw [rgD_length] at htl hm'
    exact h t m' ht (by omega) (by omega)
def con_law_shown (S : Type) : ConS S := fun as n P => ∃ (h hs : List (List Int)) (p o : Int) (d : PyData), as = [.im (hallD h), .im (.list (hs.map rowD)), .im (.int p), .im (.int o), .im d] ∧ h.length ≤ 1000 ∧ hs.length ≤ 1000 ∧ Okd 10 d ∧ (∀ k ds, seqD d = some (k, ds) → ds.length ≤ 1000) ∧ P (.bool (shownB h hs p o d)) n
abbrev s_law_shown : Stmt := topS 31
theorem sc_law_shown : FnScope ["_law_hall_here", "_law_history_here", "_law_person", "_law_other", "_law_matter", "_law_one", "_law_two"] ["_law_hall_here", "_law_history_here", "_law_person", "_law_other", "_law_matter"] (defScope s_law_shown) := ⟨rfl, rfl, rfl, by decide +kernel, rfl, by decide +kernel, by decide +kernel⟩
theorem ok_law_shown {f : Addr} {fd : FuncData} (F : Fun K "_law_shown" "_law_shown" s_law_shown f fd) (B : Bt mg) (F_law_dates : Kf P w K mg base "_law_dates" 1 3 con_law_dates) : FnOk P w K mg base CX0 2 f fd ["_law_hall_here", "_law_history_here", "_law_person", "_law_other", "_law_matter"] (spD K 5 (con_law_shown Nat)) := by
  refine def_ok F sc_law_shown rfl ?_
  intro cdv A outer s H E hr
  refine ⟨_, _, (dss_cons (ds_if (dw_dt (dw_or (dt_not (dt_val (de_isi kit_tuple (by rfl) B.isinstance (by rfl) B.tuple boot_tuple (de_var 4)))) (dw_or1 (dt_eq hr.units (de_var 4) (de_tup da_nil))))) (dss_one (ds_ret de_bl)) dss_nil)
      (dss_cons (ds_for PassesOwn.never rfl (di_seq (de_var 4)) (dg_name 5 sc_law_shown.nd rfl (.inl rfl)) (dss_one (ds_if (dw_dt (dw_or (dt_not (dt_val (de_isi kit_int (by rfl) B.isinstance (by rfl) B.int boot_int (de_var 5)))) (dw_or (dt_val (de_isi kit_bool (by rfl) B.isinstance (by rfl) B.bool boot_bool (de_var 5))) (dw_or1 (dt_not (dt_chainI op_le op_lt (fun _ _ _ => .bl _) (fun _ _ _ => .bl _) de_int (de_var 5) (de_len (by rfl) B.len (de_dq (de_var 0))))))))) (dss_one (ds_ret de_bl)) dss_nil)))
      (dss_cons (ds_if (dt_not (dt_val (de_all rfl (by rfl) B.all (df_dq (df_lc (own := [("_law_one", 5), ("_law_two", 6)]) rfl sc_law_shown.nd (di_zip' (by rfl) B.zip (de_var 4) (de_slice (de_dq (de_var 4)) (do_some de_int) do_none)) (blkOk_by (by kernel_rfl)) (fun _ _ _ _ _ => (dg_tup (n := 2) rfl (dgs_cons (dg_name 5 sc_law_shown.nd rfl (.inl rfl)) (dgs_cons (dg_name 6 sc_law_shown.nd rfl (.inl rfl)) dgs_nil)))) (fun _ _ _ _ _ => dts_nil) (fun _ _ _ _ _ => (de_in (de_var 6) (de_dq (de_ix (de_dq (de_var 0)) (de_var 5) (fun _ _ => rfl)))))))))) (dss_one (ds_ret de_bl)) dss_nil)
      (dss_cons (ds_if (dw_dt (dw_or (dt_ne hr.units (de_ix (de_dq (de_var 4)) de_int (fun _ _ => rfl)) (de_var 2)) (dw_or1 (dt_ne hr.units (de_ix (de_dq (de_var 4)) (de_neg de_int) (fun _ _ => rfl)) (de_var 3))))) (dss_one (ds_ret de_bl)) dss_nil)
      (dss_one (ds_ret (de_eq hr.units (de_len (by rfl) B.len (de_dq (de_call F_law_dates (hr.mono (by decide)) (by rfl) (da_cons (de_var 1) (da_cons (de_var 4) (da_cons (de_len (by rfl) B.len (de_dq (de_var 1))) da_nil)))))) (de_sub (de_len (by rfl) B.len (de_dq (de_var 4))) de_int)))))))), fun as n P hl h => ?_⟩
  obtain ⟨h0, hs, p, o, d, rfl, hH, hS, hok, hd, h⟩ := h
  walk_at "dd"
  have no : trailB h0 d = false → P (.bool false) n := fun z => by
    unfold shownB at h
    rw [z, Bool.false_and] at h
    exact h
  cases d with
  | tuple ds =>
    have hdl := hd true ds rfl
    rw [if_neg (show ¬ isTupD (.tuple ds) = false from fun z => nomatch z)]
    refine ⟨by decide, hok.shp.ok (by decide), rfl, _, rfl, ?_⟩
    cases ds with
    | nil => exact no rfl
    | cons x0 r0 =>
      have en : (if (false : Bool) = true then !(PyData.tuple (x0 :: r0)).eqv (.tuple []) else (PyData.tuple (x0 :: r0)).eqv (.tuple [])) = false := rfl
      rw [en, if_neg (by decide)]
      have hcons : x0 :: r0 ≠ [] := by simp
      generalize hds : x0 :: r0 = ds at h hdl hok hd no hcons ⊢
      have hne : ds.isEmpty = false := by rw [← hds]; rfl
      have bad : ∀ x ∈ ds, isBelB (h0.length : Int) x = false → P (.bool false) n := fun x hx hb => no (by
          show (!ds.isEmpty && ds.all (isBelB (h0.length : Int)) && _) = false
          have : ds.all (isBelB (h0.length : Int)) = false := by
            rw [List.all_eq_false]
            exact ⟨x, hx, by rw [hb]; decide⟩
          rw [this, Bool.and_false, Bool.false_and])
      show forRun _ _ _ ds _ n
      refine for_ind (fun i ε m => m = n ∧ (∀ j, j < i → ∀ x, ds[j]? = some x → isBelB (h0.length : Int) x = true) ∧ ∃ x2 : Sl, ε = [Sl.im (hallD h0), Sl.im (.list (hs.map rowD)), Sl.im (.int p), Sl.im (.int o), Sl.im (.tuple ds), x2, Sl.no]) _ _ n 0 ⟨rfl, (fun j hj => by omega), _, rfl⟩ (fun i y ε m hi hI Y hY => ?_) (fun ε m hI => ?_)
      · obtain ⟨rfl, hj, x2, rfl⟩ := hI
        rw [Nat.zero_add] at hY hj
        have good : isBelB (h0.length : Int) y = true → Y [Sl.im (hallD h0), Sl.im (.list (hs.map rowD)), Sl.im (.int p), Sl.im (.int o), Sl.im (.tuple ds), Sl.im y, Sl.no] m := fun hb => hY _ _ ⟨rfl, fun j hji x hx => by
          rcases Nat.lt_succ_iff_lt_or_eq.mp hji with c | c
          · exact hj j c x hx
          · subst c
            rw [hi] at hx
            cases hx
            exact hb, _, rfl⟩
        have badY : isBelB (h0.length : Int) y = false → P (.bool false) m := bad y (List.mem_of_getElem? hi)
        walk_at "dd"
        cases y with
        | int i =>
          rw [if_neg (show ¬ isIntD (.int i) = false from fun z => nomatch z), if_neg (show ¬ isBoolD (.int i) = true from fun z => nomatch z)]
          walk_at "dd"
          by_cases c0 : 0 ≤ i
          · rw [if_pos c0]
            refine ⟨true, h0.map rowD, rfl, ?_⟩
            rw [List.length_map]
            by_cases c1 : i < (h0.length : Int)
            · rw [if_neg (fun z => z c1)]
              exact good (decide_eq_true ⟨c0, c1⟩)
            · rw [if_pos c1]
              exact badY (decide_eq_false (by omega))
          · rw [if_neg c0]
            exact badY (decide_eq_false (by omega))
        | bool b =>
          rw [if_neg (show ¬ isIntD (.bool b) = false from fun z => nomatch z), if_pos (show isBoolD (.bool b) = true from rfl)]
          exact badY rfl
        | none => exact badY rfl
        | str _ => exact badY rfl
        | list _ => exact badY rfl
        | tuple _ => exact badY rfl
        | dict _ => exact badY rfl
      · obtain ⟨rfl, hj, x2, rfl⟩ := hI
        rw [Nat.zero_add] at hj
        have c' : ds.all (isBelB (h0.length : Int)) = true := List.all_eq_true.mpr fun x hx => by
          obtain ⟨j, hjx⟩ := List.getElem?_of_mem hx
          exact hj j (List.getElem?_eq_some_iff.mp hjx).1 x hjx
        walk_at "dd"
        obtain ⟨bs, f1, f2⟩ := links_eq h0 ds
        have ec : DL.cutD ds (some 1) none = ds.drop 1 := by
          have := cutD_map (fun z : PyData => z) ds (some 1) none
          rw [List.map_id', List.map_id'] at this
          rw [this]
          exact cutfrom _ 1
        rw [ec]
        refine ⟨by rw [List.length_zipWith]; omega, lc_map (linkF h0) m _ (fun z hz Y hY => ?_) ⟨bs, by rw [f1]; exact blD_map bs, ?_⟩⟩
        · obtain ⟨j, hj⟩ := List.getElem?_of_mem hz
          obtain ⟨a, b, g1, g2, rfl⟩ := DL.zip_get _ hj
          obtain ⟨a, rfl, ha0, ha1⟩ := isBel_int (List.all_eq_true.mp c' a (List.mem_of_getElem? g1))
          obtain ⟨b, rfl, hb0, hb1⟩ := isBel_int (List.all_eq_true.mp c' b (List.mem_of_mem_drop (List.mem_of_getElem? g2)))
          have ha2 : a.toNat < h0.length := by omega
          have hat : atI (h0.map rowD) a = some (rowD h0[a.toNat]) := by
            have := atI_nat (xs := h0.map rowD) (j := a.toNat) (v := rowD h0[a.toNat]) (by rw [List.getElem?_map, List.getElem?_eq_getElem ha2]; rfl)
            rw [Int.toNat_of_nonneg ha0] at this
            exact this
          walk_at "dd"
          refine ⟨true, h0.map rowD, rfl, _, hat, true, _, rfl, .int b, rfl, _, vDs_int _, ?_⟩
          rw [inV_int]
          have e : linkF h0 (.tuple [.int a, .int b]) = .bool (decide (b ∈ h0[a.toNat])) := by
            show PyData.bool (decide (b ∈ h0.getD a.toNat [])) = _
            rw [List.getD_eq_getElem?_getD, List.getElem?_eq_getElem ha2]
            rfl
          rw [e] at hY
          exact hY
        · have e : trailB h0 (.tuple ds) = chainB h0 (ds.map intD) := by
            show (!ds.isEmpty && ds.all (isBelB (h0.length : Int)) && _) = _
            rw [c', hne]
            rfl
          rw [f2, ← e]
          cases ht : trailB h0 (.tuple ds) with
          | false =>
            rw [if_pos rfl]
            exact no ht
          | true =>
            rw [if_neg (by decide)]
            obtain ⟨t, etd, htn, hto⟩ := trail_ints ht
            injection etd with etd
            subst etd
            rw [List.length_map] at hdl
            unfold shownB at h
            rw [ht, hto, Bool.true_and] at h
            refine ⟨_, atI_first htn, ?_⟩
            rw [fNe_int]
            refine ⟨_, rfl, ?_⟩
            by_cases c1 : t.getD 0 0 = p
            · rw [if_neg (by simpa using c1)]
              rw [decide_eq_true c1, Bool.true_and] at h
              refine ⟨_, atI_end htn, ?_⟩
              rw [fNe_int]
              refine ⟨_, rfl, ?_⟩
              by_cases c2 : lastP t = o
              · rw [if_neg (by simpa using c2)]
                rw [decide_eq_true c2, Bool.true_and] at h
                refine ⟨hs, t, hs.length, by rw [List.length_map], Nat.le_refl _, hS, hdl, false, _, rfl, ?_⟩
                have el : (natsD (Dts hs t hs.length)).length = (Dts hs t hs.length).length := by
                  unfold natsD
                  rw [List.length_map]
                rw [el, List.length_map]
                exact h
              · rw [if_pos (by simpa using c2)]
                rw [decide_eq_false c2, Bool.false_and] at h
                exact h
            · rw [if_pos (by simpa using c1)]
              rw [decide_eq_false c1, Bool.false_and] at h
              exact h
  | int _ => exact no rfl
  | bool _ => exact no rfl
  | none => exact no rfl
  | str _ => exact no rfl
  | list _ => exact no rfl
  | dict _ => exact no rfl
abbrev s_law_right : Stmt := topS 32
theorem sc_law_right : FnScope ["_law_box", "_law_hall_here", "_law_history_here", "_law_turn", "_law_matters", "_law_matter", "_law_person", "_law_other", "_law_told", "_law_trail", "_law_again", "_law_found", "_law_kept", "_law_due"] ["_law_box"] (defScope s_law_right) := ⟨rfl, rfl, rfl, by decide +kernel, rfl, by decide +kernel, by decide +kernel⟩
theorem ok_law_right {f : Addr} {fd : FuncData} (F : Fun K "_law_right" "_law_right" s_law_right f fd) (B : Bt mg) (F_law_as_lists : Kf P w K mg base "_law_as_lists" 3 1 (con_law_as_lists 3)) (F_law_hall : Kf P w K mg base "_law_hall" 4 2 con_law_hall) (F_law_history : Kf P w K mg base "_law_history" 3 3 con_law_history) (F_law_one_of : Kf P w K mg base "_law_one_of" 2 2 con_law_one_of) (F_law_same : Kf P w K mg base "_law_same" 3 2 (con_law_same 3)) (F_law_shown : Kf P w K mg base "_law_shown" 2 5 (con_law_shown Nat)) (F_law_take : Kf P w K mg base "_law_take" 1 2 con_law_take) (F_law_walk : Kf P w K mg base "_law_walk" 3 4 con_law_walk4) (F_hanging_trail : Kf P w K mg base "hanging_trail" 5 4 (con_hanging_trail Nat)) (F_shows_hanging : Kf P w K mg base "shows_hanging" 4 5 con_shows_hanging) : FnG P w K mg base 6 f fd ["_law_box"] (spD K 1 con_law_right) := by
  refine def_okG F sc_law_right rfl ?_
  intro cdv A outer s H E hgd hr
  refine ⟨_, _, (dss_cons (ds_set 1 sc_law_right.nd rfl (.inl rfl) (de_call F_law_hall (hr.mono (by decide)) (by rfl) (da_box 0 (da_cons de_int da_nil))))
      (dss_cons (ds_set 2 sc_law_right.nd rfl (.inl rfl) (de_call F_law_history (hr.mono (by decide)) (by rfl) (da_box 0 (da_cons (de_len (by rfl) B.len (de_dq (de_var 1))) (da_cons de_int da_nil)))))
      (dss_cons (ds_for PassesOwn.never rfl (di_range (by rfl) B.range de_int) (dg_name 3 sc_law_right.nd rfl (.inl rfl)) (dss_cons (ds_par (i := 6) (j := 7) rfl sc_law_right.nd rfl rfl (by decide) rfl rfl (da_cons (de_call F_law_take (hr.mono (by decide)) (by rfl) (da_box 0 (da_cons (de_len (by rfl) B.len (de_dq (de_var 1))) da_nil))) (da_cons (de_call F_law_take (hr.mono (by decide)) (by rfl) (da_box 0 (da_cons (de_len (by rfl) B.len (de_dq (de_var 1))) da_nil))) da_nil)) (by rfl))
      (dss_cons (ds_par (i := 8) (j := 9) rfl sc_law_right.nd rfl rfl (by decide) rfl rfl (da_cons (de_call F_hanging_trail (hr.mono (by decide)) (by rfl) (da_cons (de_var 1) (da_cons (de_var 2) (da_cons (de_var 6) (da_cons (de_var 7) da_nil))))) (da_cons (de_call F_law_walk (hr.mono (by decide)) (by rfl) (da_box 0 (da_cons (de_var 1) (da_cons (de_var 6) (da_cons de_int da_nil))))) da_nil)) (by rfl))
      (dss_cons (ds_set 4 sc_law_right.nd rfl (.inl rfl) (df_de (df_lst (da_cons (de_var 8) (da_cons (de_var 9) (da_cons (de_slice (de_dq (de_var 9)) do_none (do_some (de_neg de_int))) (da_cons (de_plus (de_var 9) (de_tup (da_cons (de_var 7) da_nil))) (da_cons (de_backT (de_dq (de_var 9))) (da_cons (de_tup (da_cons (de_var 6) da_nil)) (da_cons (de_tup (da_cons (de_var 7) da_nil)) (da_cons (de_tup da_nil) (da_cons de_non (da_cons de_bl da_nil)))))))))))))
      (dss_cons (ds_set 4 sc_law_right.nd rfl (.inl rfl) (de_plus (de_var 4) (df_de (df_lst (da_cons (df_de (df_list (by rfl) B.list (de_dq (de_var 9)))) (da_cons (df_de (df_lst da_nil)) (da_cons (de_tup (da_cons (de_var 6) (da_cons de_bl da_nil))) (da_cons (de_tup (da_cons (de_var 6) (da_cons (de_neg de_int) da_nil))) (da_cons (de_tup (da_cons (de_var 6) (da_cons de_int da_nil))) (da_cons de_str (da_cons de_int (da_cons (de_tup (da_cons (de_tup (da_cons (de_var 6) da_nil)) da_nil)) da_nil))))))))))))
      (dss_cons (ds_if (dt_notN (de_var 8) de_non) (dss_cons (ds_set 10 sc_law_right.nd rfl (.inl rfl) (de_if (dt_gt (de_len (by rfl) B.len (de_dq (de_ix (de_dq (de_var 1)) (de_ix (de_dq (de_var 8)) (de_neg de_int) (fun _ _ => rfl)) (fun _ _ => rfl)))) de_int) (de_call F_law_one_of (hr.mono (by decide)) (by rfl) (da_box 0 (da_cons (df_de (df_list (by rfl) B.list (de_dq (de_ix (de_dq (de_var 1)) (de_ix (de_dq (de_var 8)) (de_neg de_int) (fun _ _ => rfl)) (fun _ _ => rfl))))) da_nil))) (de_var 7)))
      (dss_one (ds_set 4 sc_law_right.nd rfl (.inl rfl) (de_plus (de_var 4) (df_de (df_lst (da_cons (de_slice (de_dq (de_var 8)) (do_some de_int) do_none) (da_cons (de_slice (de_dq (de_var 8)) do_none (do_some (de_neg de_int))) (da_cons (de_plus (de_var 8) (de_tup (da_cons (de_var 10) da_nil))) (da_cons (df_de (df_list (by rfl) B.list (de_dq (de_var 8)))) (da_cons (de_plus (de_var 8) (de_var 8)) (da_cons (de_tup (da_cons (de_var 8) da_nil)) da_nil)))))))))))) dss_nil)
      (dss_one (ds_for PassesOwn.never rfl (di_seq (de_var 4)) (dg_name 5 sc_law_right.nd rfl (.inl rfl)) (dss_cons (ds_par (i := 12) (j := 13) rfl sc_law_right.nd rfl rfl (by decide) rfl rfl (da_cons (de_reprA hgd hr.units (by rfl) B.repr (de_var 5)) (da_cons (de_call F_law_shown (hr.mono (by decide)) (by rfl) (da_cons (de_var 1) (da_cons (de_var 2) (da_cons (de_var 6) (da_cons (de_var 7) (da_cons (de_var 5) da_nil)))))) da_nil)) (by rfl))
      (dss_cons (ds_setO 11 sc_law_right.nd rfl (.inl rfl) (df_lst (da_cons (de_call F_shows_hanging (hr.mono (by decide)) (by rfl) (da_cons (de_var 1) (da_cons (de_var 2) (da_cons (de_var 6) (da_cons (de_var 7) (da_cons (de_var 5) da_nil)))))) da_nil)))
      (dss_cons (ds_append' 11 (de_call F_shows_hanging (hr.mono (by decide)) (by rfl) (da_cons (de_call F_law_as_lists (hr.mono (by decide)) (by rfl) (da_cons (de_var 1) da_nil)) (da_cons (de_tuple (by rfl) B.tuple (de_dq (de_var 2))) (da_cons (de_var 6) (da_cons (de_var 7) (da_cons (de_var 5) da_nil)))))))
      (dss_frz 11 (dss_one (ds_if (dw_dt (dw_or (dt_not (dt_val (de_call F_law_same (hr.mono (by decide)) (by rfl) (da_cons (de_var 11) (da_cons (df_de (df_lst (da_cons (de_var 13) (da_cons (de_var 13) da_nil)))) da_nil))))) (dw_or1 (dt_neS (de_reprA hgd hr.units (by rfl) B.repr (de_var 5)) (de_var 12))))) (dss_one (ds_ret de_bl)) dss_nil))))))))))))))
      (dss_one (ds_ret de_bl))))), fun as n P hl h => ?_⟩
  obtain ⟨rfl, hn, h⟩ := h
  walk_at "dd"
  refine ⟨5, rfl, by decide, by decide, by omega, fun hh n1 hH hHl hn1 => ?_⟩
  have hl0 : 1 ≤ hh.length := List.length_pos_iff.mpr hH.1
  have hl5 : hh.length ≤ 5 := by omega
  have hHa : HallOk hh := hallOk_of hH (by omega)
  refine ⟨true, hh.map rowD, rfl, ?_⟩
  rw [List.length_map]
  refine ⟨_, 10, rfl, by omega, by omega, by decide, by decide, by omega, fun hs n2 hr1 hl1 hn2 => ?_⟩
  have h1 : HistOk hh hs := histOk_of (by omega) hr1 (by omega)
  have hcl : callsN hs ≤ 50 := by
    have h2 : callsN hs ≤ 5 * hs.length := callsN_le hs fun r hx => by
      have h3 : (r.length : Int) ≤ (hh.length : Int) - 0 := ris_len r 0 _ (by omega) (hr1 r hx).1 (hr1 r hx).2
      omega
    omega
  dsimp only
  refine ⟨by decide, by decide, ?_⟩
  refine for_ind (fun i ε m => ∃ x3 x4 x5 x6 x7 x8 x9 x10 x11 x12 x13 : Sl, ε = [Sl.bx, Sl.im (hallD hh), Sl.im (.list (hs.map rowD)), x3, x4, x5, x6, x7, x8, x9, x10, x11, x12, x13] ∧ m ≤ n2 + 2000 * i) _ _ n2 0 ⟨_, _, _, _, _, _, _, _, _, _, _, rfl, by omega⟩ (fun i y ε m hi hI Y hY => ?_) (fun ε m hI => ?_)
  · obtain ⟨x3, x4, x5, x6, x7, x8, x9, x10, x11, x12, x13, rfl, hm⟩ := hI
    obtain ⟨hi1, rfl⟩ := rgD_get hi
    have hi8 : i < 8 := hi1
    rw [Nat.zero_add] at hm hY
    walk_at "dd"
    refine ⟨true, hh.map rowD, rfl, ?_⟩
    rw [List.length_map]
    refine ⟨_, rfl, by omega, by omega, by omega, fun p0 m1 hp0 hp1 hm1 => ?_⟩
    dsimp only
    refine ⟨true, hh.map rowD, rfl, ?_⟩
    rw [List.length_map]
    refine ⟨_, rfl, by omega, by omega, by omega, fun o m2 ho0 ho1 hm2 => ?_⟩
    obtain ⟨p, rfl⟩ : ∃ p : Nat, p0 = (p : Int) := ⟨p0.toNat, (Int.toNat_of_nonneg hp0).symm⟩
    have hp : p < hh.length := by omega
    have hv := hg_val hHa h1 hp o
    refine ⟨_, _, hh, hs, p, o, rfl, rows_hall hh, RowsR.lst hs, hHa, h1, hp, ?_⟩
    generalize (lookI (hgK hh hs p) (hgE hh hs p) o).getD .none = tv at hv ⊢
    refine ⟨hh, (p : Int), 6, rfl, hH, by omega, by omega, by omega, by decide, by decide, by omega, fun t m3 hT hTl hm3 => ?_⟩
    have ht1 : ∀ i ∈ t, i.natAbs ≤ 1000000 := fun i hi => by
      have := hT.2.1 i hi
      omega
    have htl6 : t.length ≤ 6 := by omega
    dsimp only
    refine ⟨true, _, rfl, by decide, ?_⟩
    show _ ≤ 100000 ∧ _
    refine ⟨by rw [List.length_map]; show t.length + 1 ≤ 100000; omega, ?_⟩
    dsimp only
    refine ⟨true, _, rfl, rfl, by decide, by decide, by decide, by decide, true, _, rfl, by decide, by decide, by decide, by decide, by decide, by decide, by decide, by decide, ?_⟩
    have eto : (t.map PyData.int) ++ [PyData.int o] = (t ++ [o]).map PyData.int := by rw [List.map_append]; rfl
    have eback : (t.map PyData.int).reverse = t.reverse.map PyData.int := by rw [List.map_reverse]
    have hms : ∀ d ∈ [tv, .tuple (t.map PyData.int), .tuple (DL.cutD (t.map PyData.int) none (some (-1))), .tuple ((t.map PyData.int) ++ [PyData.int o]), .tuple (t.map PyData.int).reverse, .tuple [.int (p : Int)], .tuple [.int o], .tuple [], .none, .bool true, .list (t.map PyData.int), .list [], .tuple [.int (p : Int), .bool true], .tuple [.int (p : Int), .int (-1)], .tuple [.int (p : Int), .int 99], .str "0", .int 0, .tuple [.tuple [.int (p : Int)]]], Thg d := fun d hd => by
      simp only [List.mem_append, List.mem_cons, List.not_mem_nil, or_false] at hd
      have io : ∀ i : Int, i.natAbs ≤ 1000000 → El (.int i) := fun i hi => .inl ⟨i, rfl, hi⟩
      rcases hd with rfl | rfl | rfl | rfl | rfl | rfl | rfl | rfl | rfl | rfl | rfl | rfl | rfl | rfl | rfl | rfl | rfl | rfl
      · rcases hv with e | ⟨ts, e, _, hl, hr⟩
        · rw [e]
          exact .inl (.inr (.inr (.inl rfl)))
        · rw [e]
          exact thg_tup (by omega) fun i hi => by have := hr i hi; omega
      · exact thg_tup (by omega) ht1
      · exact thg_cut (by omega) ht1 _ _
      · rw [eto]
        exact thg_tup (by rw [List.length_append, List.length_singleton]; omega) fun i hi => by
          rcases List.mem_append.mp hi with hi | hi
          · exact ht1 i hi
          · rw [List.mem_singleton.mp hi]
            omega
      · rw [eback]
        exact thg_tup (by rw [List.length_reverse]; omega) fun i hi => ht1 i (List.mem_reverse.mp hi)
      · exact .inr ⟨_, .inl rfl, by show 1 ≤ 120; decide, fun x hx => by rw [List.mem_singleton.mp hx]; exact io _ (by omega)⟩
      · exact .inr ⟨_, .inl rfl, by show 1 ≤ 120; decide, fun x hx => by rw [List.mem_singleton.mp hx]; exact io _ (by omega)⟩
      · exact .inr ⟨_, .inl rfl, by decide, fun x hx => nomatch hx⟩
      · exact .inl (.inr (.inr (.inl rfl)))
      · exact .inl (.inr (.inl ⟨_, rfl⟩))
      · exact thg_lst (by omega) ht1
      · exact .inr ⟨_, .inr rfl, by decide, fun x hx => nomatch hx⟩
      · exact .inr ⟨_, .inl rfl, by show 2 ≤ 120; decide, fun x hx => by
          simp only [List.mem_cons, List.not_mem_nil, or_false] at hx
          rcases hx with rfl | rfl
          · exact io _ (by omega)
          · exact .inr (.inl ⟨_, rfl⟩)⟩
      · exact .inr ⟨_, .inl rfl, by show 2 ≤ 120; decide, fun x hx => by
          simp only [List.mem_cons, List.not_mem_nil, or_false] at hx
          rcases hx with rfl | rfl
          · exact io _ (by omega)
          · exact io _ (by decide)⟩
      · exact .inr ⟨_, .inl rfl, by show 2 ≤ 120; decide, fun x hx => by
          simp only [List.mem_cons, List.not_mem_nil, or_false] at hx
          rcases hx with rfl | rfl
          · exact io _ (by omega)
          · exact io _ (by decide)⟩
      · exact .inl (.inr (.inr (.inr (.inl rfl))))
      · exact .inl (io _ (by decide))
      · exact .inr ⟨_, .inl rfl, by show 1 ≤ 120; decide, fun x hx => by
          rw [List.mem_singleton.mp hx]
          exact .inr (.inr (.inr (.inr ⟨[(p : Int)], rfl, by show 1 ≤ 60; decide, fun i hi => by rw [List.mem_singleton.mp hi]; omega⟩)))⟩
    simp only [eq_self, if_true]
    rcases hv with rfl | ⟨ts, rfl, htn, hl, hr⟩
    · rw [if_neg (show ¬ isN .none = false from fun z => nomatch z)]
      generalize [PyData.none, PyData.tuple (t.map PyData.int), .tuple (DL.cutD (t.map PyData.int) none (some (-1))), .tuple ((t.map PyData.int) ++ [PyData.int o]), .tuple (t.map PyData.int).reverse, .tuple [.int (p : Int)], .tuple [.int o], .tuple [], .none, .bool true, .list (t.map PyData.int), .list [], .tuple [.int (p : Int), .bool true], .tuple [.int (p : Int), .int (-1)], .tuple [.int (p : Int), .int 99], .str "0", .int 0, .tuple [.tuple [.int (p : Int)]]] = MS at hms ⊢
      refine for_ind (fun j ε m' => m' = m3 ∧ ∃ x5 x11 x12 x13 : Sl, ε = [Sl.bx, Sl.im (hallD hh), Sl.im (.list (hs.map rowD)), Sl.im (.int (i : Int)), Sl.im (.list (MS)), x5, Sl.im (.int (p : Int)), Sl.im (.int o), Sl.im (.none), Sl.im (.tuple (t.map PyData.int)), x10, x11, x12, x13]) _ _ m3 0 ⟨rfl, _, _, _, _, rfl⟩ (fun j y ε m' hj hI Z hZ => ?_) (fun ε m' hI => ?_)
      · obtain ⟨rfl, x5, x11, x12, x13, rfl⟩ := hI
        have hy := hms y (List.mem_of_getElem? hj)
        walk_at "dd"
        refine ⟨thg_shows hy, hh, hs, (p : Int), o, y, rfl, by omega, by omega, (thg_okd hy).mono (by decide), thg_len hy, ?_⟩
        refine ⟨_, _, y, hh, hs, (p : Int), o, rfl, rows_hall hh, RowsR.lst hs, by omega, by omega, thg_len hy, by decide, _, rfl, hall_okd hH (by omega), ?_⟩
        rw [asl_hall]
        refine ⟨_, _, y, hh, hs, (p : Int), o, rfl, rows_asl hh, rows_hall hs, by omega, by omega, thg_len hy, by decide, by decide, ?_⟩
        refine ⟨_, rfl, by decide, Okd.list (k := 1) (by show 2 ≤ 50000; decide) (fun x hx => ?_), _, rfl, ?_⟩
        · simp only [List.mem_cons, List.not_mem_nil, or_false, or_self] at hx
          rw [hx]
          exact Okd.bool _
        rw [if_neg (by decide)]
        refine ⟨thg_shows hy, ?_⟩
        rw [if_neg (fun z => z trivial)]
        exact hZ _ _ ⟨rfl, _, _, _, _, rfl⟩
      · obtain ⟨rfl, x5, x11, x12, x13, rfl⟩ := hI
        exact hY _ _ ⟨_, _, _, _, _, _, _, _, _, _, _, rfl, by omega⟩
    · rw [if_pos (show isN (.tuple (ts.map PyData.int)) = false from rfl)]
      have hts : ∀ i ∈ ts, i.natAbs ≤ 1000000 := fun i hi => by
        have := hr i hi
        omega
      have hlr : 0 ≤ lastP ts ∧ lastP ts < (hh.length : Int) := by
        have e : lastP ts = ts.getLast htn := by unfold lastP; rw [List.getLast?_eq_some_getLast htn]; rfl
        rw [e]
        exact hr _ (List.getLast_mem htn)
      have hlp : (lastP ts).toNat < hh.length := by omega
      have hat2 : atI (hh.map rowD) (lastP ts) = some (rowD hh[(lastP ts).toNat]) := by
        have := atI_nat (xs := hh.map rowD) (j := (lastP ts).toNat) (v := rowD hh[(lastP ts).toNat]) (by rw [List.getElem?_map, List.getElem?_eq_getElem hlp]; rfl)
        rw [Int.toNat_of_nonneg hlr.1] at this
        exact this
      have hrow := hH.2 hh[(lastP ts).toNat] (List.getElem_mem _)
      refine ⟨true, hh.map rowD, rfl, true, _, rfl, _, atI_end htn, ?_⟩
      rw [fIx_int]
      refine ⟨_, hat2, true, _, rfl, ?_⟩
      have go : ∀ (a : Int), 0 ≤ a → a < (hh.length : Int) → ∀ d ∈ [PyData.tuple (ts.map PyData.int), PyData.tuple (t.map PyData.int), .tuple (DL.cutD (t.map PyData.int) none (some (-1))), .tuple ((t.map PyData.int) ++ [PyData.int o]), .tuple (t.map PyData.int).reverse, .tuple [.int (p : Int)], .tuple [.int o], .tuple [], .none, .bool true, .list (t.map PyData.int), .list [], .tuple [.int (p : Int), .bool true], .tuple [.int (p : Int), .int (-1)], .tuple [.int (p : Int), .int 99], .str "0", .int 0, .tuple [.tuple [.int (p : Int)]]] ++ [PyData.tuple (DL.cutD (ts.map PyData.int) (some 1) none), .tuple (DL.cutD (ts.map PyData.int) none (some (-1))), .tuple ((ts.map PyData.int) ++ [PyData.int a]), .list (ts.map PyData.int), .tuple ((ts.map PyData.int) ++ (ts.map PyData.int)), .tuple [.tuple (ts.map PyData.int)]], Thg d := fun a ha0 ha1 d hd => by
        rcases List.mem_append.mp hd with hd | hd
        · exact hms d hd
        · simp only [List.mem_cons, List.not_mem_nil, or_false] at hd
          rcases hd with rfl | rfl | rfl | rfl | rfl | rfl
          · exact thg_cut (by omega) hts _ _
          · exact thg_cut (by omega) hts _ _
          · rw [show (ts.map PyData.int) ++ [PyData.int a] = (ts ++ [a]).map PyData.int by rw [List.map_append]; rfl]
            exact thg_tup (by rw [List.length_append, List.length_singleton]; omega) fun i hi => by
              rcases List.mem_append.mp hi with hi | hi
              · exact hts i hi
              · rw [List.mem_singleton.mp hi]
                omega
          · exact thg_lst (by omega) hts
          · rw [← List.map_append]
            exact thg_tup (by rw [List.length_append]; omega) fun i hi => (List.mem_append.mp hi).elim (hts i) (hts i)
          · exact .inr ⟨_, .inl rfl, by show 1 ≤ 120; decide, fun x hx => by
              rw [List.mem_singleton.mp hx]
              exact .inr (.inr (.inr (.inr ⟨ts, rfl, by omega, hts⟩)))⟩
      rw [List.length_map]
      by_cases c : 0 < (hh[(lastP ts).toNat].length : Int)
      · rw [if_pos c]
        refine ⟨true, hh.map rowD, rfl, true, _, rfl, _, atI_end htn, ?_⟩
        rw [fIx_int]
        refine ⟨_, hat2, true, _, rfl, ?_⟩
        have hrl : (hh[(lastP ts).toNat].length : Int) ≤ (hh.length : Int) - 0 := ris_len _ 0 _ (by omega) hrow.1 hrow.2
        refine ⟨_, false, _, rfl, rfl, ?_, by rw [List.length_map]; omega, by omega, fun x hx m4 hm4 => ?_⟩
        · intro e
          have e' := congrArg List.length e
          rw [List.length_map] at e'
          simp only [List.length_nil] at e'
          omega
        obtain ⟨a, ha, rfl⟩ := List.mem_map.mp hx
        have ha2 := hrow.2 a ha
        refine ⟨true, _, rfl, true, _, rfl, by decide, ?_⟩
        show _ ≤ 100000 ∧ _
        refine ⟨by rw [List.length_map]; show ts.length + 1 ≤ 100000; omega, true, _, rfl, ?_⟩
        show _ ≤ 100000 ∧ _
        refine ⟨by rw [List.length_map]; omega, by decide, by decide, by decide, ?_⟩
        simp only [eq_self, if_true]
        refine for_ind (fun j ε m' => m' = m4 ∧ ∃ x5 x11 x12 x13 : Sl, ε = [Sl.bx, Sl.im (hallD hh), Sl.im (.list (hs.map rowD)), Sl.im (.int (i : Int)), Sl.im (.list ([PyData.tuple (ts.map PyData.int), PyData.tuple (t.map PyData.int), .tuple (DL.cutD (t.map PyData.int) none (some (-1))), .tuple ((t.map PyData.int) ++ [PyData.int o]), .tuple (t.map PyData.int).reverse, .tuple [.int (p : Int)], .tuple [.int o], .tuple [], .none, .bool true, .list (t.map PyData.int), .list [], .tuple [.int (p : Int), .bool true], .tuple [.int (p : Int), .int (-1)], .tuple [.int (p : Int), .int 99], .str "0", .int 0, .tuple [.tuple [.int (p : Int)]]] ++ [PyData.tuple (DL.cutD (ts.map PyData.int) (some 1) none), .tuple (DL.cutD (ts.map PyData.int) none (some (-1))), .tuple ((ts.map PyData.int) ++ [PyData.int a]), .list (ts.map PyData.int), .tuple ((ts.map PyData.int) ++ (ts.map PyData.int)), .tuple [.tuple (ts.map PyData.int)]])), x5, Sl.im (.int (p : Int)), Sl.im (.int o), Sl.im ((.tuple (ts.map PyData.int))), Sl.im (.tuple (t.map PyData.int)), Sl.im (.int a), x11, x12, x13]) _ _ m4 0 ⟨rfl, _, _, _, _, rfl⟩ (fun j y ε m' hj hI Z hZ => ?_) (fun ε m' hI => ?_)
        · obtain ⟨rfl, x5, x11, x12, x13, rfl⟩ := hI
          have hy := (go a ha2.1 ha2.2) y (List.mem_of_getElem? hj)
          walk_at "dd"
          refine ⟨thg_shows hy, hh, hs, (p : Int), o, y, rfl, by omega, by omega, (thg_okd hy).mono (by decide), thg_len hy, ?_⟩
          refine ⟨_, _, y, hh, hs, (p : Int), o, rfl, rows_hall hh, RowsR.lst hs, by omega, by omega, thg_len hy, by decide, _, rfl, hall_okd hH (by omega), ?_⟩
          rw [asl_hall]
          refine ⟨_, _, y, hh, hs, (p : Int), o, rfl, rows_asl hh, rows_hall hs, by omega, by omega, thg_len hy, by decide, by decide, ?_⟩
          refine ⟨_, rfl, by decide, Okd.list (k := 1) (by show 2 ≤ 50000; decide) (fun x hx => ?_), _, rfl, ?_⟩
          · simp only [List.mem_cons, List.not_mem_nil, or_false, or_self] at hx
            rw [hx]
            exact Okd.bool _
          rw [if_neg (by decide)]
          refine ⟨thg_shows hy, ?_⟩
          rw [if_neg (fun z => z trivial)]
          exact hZ _ _ ⟨rfl, _, _, _, _, rfl⟩
        · obtain ⟨rfl, x5, x11, x12, x13, rfl⟩ := hI
          exact hY _ _ ⟨_, _, _, _, _, _, _, _, _, _, _, rfl, by omega⟩
      · rw [if_neg c]
        refine ⟨true, _, rfl, true, _, rfl, by decide, ?_⟩
        show _ ≤ 100000 ∧ _
        refine ⟨by rw [List.length_map]; show ts.length + 1 ≤ 100000; omega, true, _, rfl, ?_⟩
        show _ ≤ 100000 ∧ _
        refine ⟨by rw [List.length_map]; omega, by decide, by decide, by decide, ?_⟩
        simp only [eq_self, if_true]
        refine for_ind (fun j ε m' => m' = m3 ∧ ∃ x5 x11 x12 x13 : Sl, ε = [Sl.bx, Sl.im (hallD hh), Sl.im (.list (hs.map rowD)), Sl.im (.int (i : Int)), Sl.im (.list ([PyData.tuple (ts.map PyData.int), PyData.tuple (t.map PyData.int), .tuple (DL.cutD (t.map PyData.int) none (some (-1))), .tuple ((t.map PyData.int) ++ [PyData.int o]), .tuple (t.map PyData.int).reverse, .tuple [.int (p : Int)], .tuple [.int o], .tuple [], .none, .bool true, .list (t.map PyData.int), .list [], .tuple [.int (p : Int), .bool true], .tuple [.int (p : Int), .int (-1)], .tuple [.int (p : Int), .int 99], .str "0", .int 0, .tuple [.tuple [.int (p : Int)]]] ++ [PyData.tuple (DL.cutD (ts.map PyData.int) (some 1) none), .tuple (DL.cutD (ts.map PyData.int) none (some (-1))), .tuple ((ts.map PyData.int) ++ [PyData.int o]), .list (ts.map PyData.int), .tuple ((ts.map PyData.int) ++ (ts.map PyData.int)), .tuple [.tuple (ts.map PyData.int)]])), x5, Sl.im (.int (p : Int)), Sl.im (.int o), Sl.im ((.tuple (ts.map PyData.int))), Sl.im (.tuple (t.map PyData.int)), Sl.im (.int o), x11, x12, x13]) _ _ m3 0 ⟨rfl, _, _, _, _, rfl⟩ (fun j y ε m' hj hI Z hZ => ?_) (fun ε m' hI => ?_)
        · obtain ⟨rfl, x5, x11, x12, x13, rfl⟩ := hI
          have hy := (go o ho0 (by omega)) y (List.mem_of_getElem? hj)
          walk_at "dd"
          refine ⟨thg_shows hy, hh, hs, (p : Int), o, y, rfl, by omega, by omega, (thg_okd hy).mono (by decide), thg_len hy, ?_⟩
          refine ⟨_, _, y, hh, hs, (p : Int), o, rfl, rows_hall hh, RowsR.lst hs, by omega, by omega, thg_len hy, by decide, _, rfl, hall_okd hH (by omega), ?_⟩
          rw [asl_hall]
          refine ⟨_, _, y, hh, hs, (p : Int), o, rfl, rows_asl hh, rows_hall hs, by omega, by omega, thg_len hy, by decide, by decide, ?_⟩
          refine ⟨_, rfl, by decide, Okd.list (k := 1) (by show 2 ≤ 50000; decide) (fun x hx => ?_), _, rfl, ?_⟩
          · simp only [List.mem_cons, List.not_mem_nil, or_false, or_self] at hx
            rw [hx]
            exact Okd.bool _
          rw [if_neg (by decide)]
          refine ⟨thg_shows hy, ?_⟩
          rw [if_neg (fun z => z trivial)]
          exact hZ _ _ ⟨rfl, _, _, _, _, rfl⟩
        · obtain ⟨rfl, x5, x11, x12, x13, rfl⟩ := hI
          exact hY _ _ ⟨_, _, _, _, _, _, _, _, _, _, _, rfl, by omega⟩
  · obtain ⟨x3, x4, x5, x6, x7, x8, x9, x10, x11, x12, x13, rfl, hm⟩ := hI
    walk_at "dd"
    exact h _
end
end K25
set_option Elab.async false
set_option linter.all false
set_option autoImplicit false
set_option maxRecDepth 100000
namespace K25
open PySem PySem.Spec PyProof.Rows L2 DL
/-! ### the class as the top has made it -/
structure MtX (K : PySem.W.Frag) (C : Addr) (m q : Str) (st : Stmt) : Prop where
  ex : ∃ (f : Addr) (fd : FuncData), Fun K m q st f fd ∧ Meth K C m f
theorem mt_mk {K : PySem.W.Frag} {C f : Addr} {m q : Str} {st : Stmt} {od an : Option Addr} {osl : Array (Option Value)} {oc kV doc pm cdv ct : Value} (a : PySem.W.findIn K (.ref C) m = some (some (.ref f))) (i : PySem.W.isFn K (.ref f) = true)
    (l : K.lookup f = some ⟨oc, od, .func (PySem.W.fnOf m q (defArgs st) (defBody st) (defScope st) .none kV doc pm an cdv ct), osl⟩) (c : PySem.W.codeIn K cdv q = true) (k : PySem.W.keepIn K (.ref f) = true) : MtX K C m q st := ⟨f, _, fun_mk l c k, ⟨a, i, k⟩⟩
structure BookX (K : PySem.W.Frag) (mg : Str → Option Value) : Prop where
  ex : ∃ C : Addr, BkT K mg C ∧ PySem.W.makesIn K C = true ∧ PySem.W.keepIn K (.ref C) = true ∧ MtX K C "__init__" "Book.__init__" s_init ∧ MtX K C "written" "Book.written" s_written
    ∧ MtX K C "is_first" "Book.is_first" s_is_first
theorem book_mk {K : PySem.W.Frag} {h : Heap} {mg : Str → Option Value} {C : Addr} (X : K.In h) (G : h.Ns mainGlobals mg) (aC : PySem.W.nsIn K mainGlobals "Book" = some (some (.ref C))) (pg : PySem.W.plainGet K C Str.empty = true) (hd : PySem.W.hasDictIn K C = true) (po : PySem.W.plainOver K C = true) (sa : PySem.W.findIn K (.ref C) "__setattr__" = some (some (.builtin "object.__setattr__")))
    (nK : PySem.W.findIn K (.ref C) "known" = some none) (nL : PySem.W.findIn K (.ref C) "looks" = some none) (mk : PySem.W.makesIn K C = true) (kc : PySem.W.keepIn K (.ref C) = true) (m1 : MtX K C "__init__" "Book.__init__" s_init) (m2 : MtX K C "written" "Book.written" s_written)
    (m3 : MtX K C "is_first" "Book.is_first" s_is_first)
    : BookX K mg := ⟨C, ⟨⟨pg, hd, po, sa⟩, nK, nL, PySem.W.mg_of X G aC⟩, mk, kc, m1, m2
    , m3
    ⟩
section
variable {P : Program} {w : World} {K : PySem.W.Frag} {mg : Str → Option Value} {base : Heap}
theorem book_kc {C : Addr} (B : Bt mg) (T : BkT K mg C) (mk : PySem.W.makesIn K C = true) (kc : PySem.W.keepIn K (.ref C) = true) (m : MtX K C "__init__" "Book.__init__" s_init) : Kc P w K mg base "Book" C 2 1 (con_book C) := by
  obtain ⟨f, fd, F, M⟩ := m.ex
  exact ⟨⟨f, fd, _, ok_init F B T, ⟨mk, M.at_, M.fn, kc⟩, T.mgC, F.binds (ps := ["self", "hall"]) fun _ _ _ _ _ _ us hl => match us, hl with | [_, _], _ => rfl⟩⟩
theorem book_kw {C : Addr} (B : Bt mg) (T : BkT K mg C) (m : MtX K C "written" "Book.written" s_written) : Km (S := Own) P w K mg base C "written" 1 3 (con_written C) := by
  obtain ⟨f, fd, F, M⟩ := m.ex
  exact ⟨⟨f, fd, _, ok_written F B T, M, F.binds (ps := ["self", "person", "looked"]) fun _ _ _ _ _ _ us hl => match us, hl with | [_, _, _], _ => rfl⟩⟩
theorem book_kf {S : Type} [MOw S] {C : Addr} (B : Bt mg) (T : BkT K mg C) (m : MtX K C "is_first" "Book.is_first" s_is_first) : Km (S := S) P w K mg base C "is_first" 1 2 (con_is_first S C) := by
  obtain ⟨f, fd, F, M⟩ := m.ex
  exact ⟨⟨f, fd, _, ok_is_first F B T, M, F.binds (ps := ["self", "writing"]) fun _ _ _ _ _ _ us hl => match us, hl with | [_, _], _ => rfl⟩⟩
end
end K25

set_option Elab.async false
set_option linter.all false
set_option autoImplicit false
set_option maxRecDepth 100000
namespace K25
open PySem PySem.Spec PyProof.Rows L2 DL
structure DfX (K : PySem.W.Frag) (mg : Str → Option Value) (x : Str) (st : Stmt) : Prop where
  ex : ∃ (f : Addr) (fd : FuncData), Fun K x x st f fd ∧ mg x = some (.ref f)
theorem df_mk {K : PySem.W.Frag} {h : Heap} {mg : Str → Option Value} (X : K.In h) (G : h.Ns mainGlobals mg) {x : Str} {st : Stmt} {f : Addr} {od an : Option Addr} {osl : Array (Option Value)} {oc kV doc pm cdv ct : Value}
    (a : PySem.W.nsIn K mainGlobals x = some (some (.ref f))) (l : K.lookup f = some ⟨oc, od, .func (PySem.W.fnOf x x (defArgs st) (defBody st) (defScope st) .none kV doc pm an cdv ct), osl⟩) (c : PySem.W.codeIn K cdv x = true) (k : PySem.W.keepIn K (.ref f) = true) : DfX K mg x st :=
  ⟨f, _, fun_mk l c k, PySem.W.mg_of X G a⟩
structure DfK (K : PySem.W.Frag) (mg : Str → Option Value) (x : Str) (st : Stmt) (kws : List (Str × V)) : Prop where
  ex : ∃ (f : Addr) (fd : FuncData), Fun K x x st f fd ∧ FunD K x x (defArgs st) (defBody st) (defScope st) [] kws f fd ∧ mg x = some (.ref f)
theorem dfk_mk {K : PySem.W.Frag} {h : Heap} {mg : Str → Option Value} (X : K.In h) (G : h.Ns mainGlobals mg) {x y : Str} {st : Stmt} {f D : Addr} {od an : Option Addr} {osl : Array (Option Value)} {oc doc pm cdv ct : Value}
    (a : PySem.W.nsIn K mainGlobals x = some (some (.ref f))) (l : K.lookup f = some ⟨oc, od, .func (PySem.W.fnOf x x (defArgs st) (defBody st) (defScope st) .none (.ref D) doc pm an cdv ct), osl⟩) (c : PySem.W.codeIn K cdv x = true) (k : PySem.W.keepIn K (.ref f) = true)
    (q : PySem.W.nsIn K D y = some (some .none)) : DfK K mg x st [(y, .non)] :=
  ⟨f, _, fun_mk l c k, ⟨⟨oc, od, _, _, doc, pm, an, cdv, ct, osl, rfl, l, c, .inl ⟨rfl, rfl⟩, .inr ⟨D, rfl, fun p hp => by
    rw [List.mem_singleton.mp hp]
    exact ⟨.none, q, rfl⟩⟩⟩, k⟩, PySem.W.mg_of X G a⟩
theorem dfki_mk {i : Int} {tok : Tok} {K : PySem.W.Frag} {h : Heap} {mg : Str → Option Value} (X : K.In h) (G : h.Ns mainGlobals mg) {x y : Str} {st : Stmt} {f D : Addr} {od an : Option Addr} {osl : Array (Option Value)} {oc doc pm cdv ct : Value}
    (a : PySem.W.nsIn K mainGlobals x = some (some (.ref f))) (l : K.lookup f = some ⟨oc, od, .func (PySem.W.fnOf x x (defArgs st) (defBody st) (defScope st) .none (.ref D) doc pm an cdv ct), osl⟩) (c : PySem.W.codeIn K cdv x = true) (k : PySem.W.keepIn K (.ref f) = true)
    (q : PySem.W.nsIn K D y = some (some (.int i tok))) : DfK K mg x st [(y, .int i)] :=
  ⟨f, _, fun_mk l c k, ⟨⟨oc, od, _, _, doc, pm, an, cdv, ct, osl, rfl, l, c, .inl ⟨rfl, rfl⟩, .inr ⟨D, rfl, fun p hp => by
    rw [List.mem_singleton.mp hp]
    exact ⟨.int i tok, q, ⟨tok, rfl⟩⟩⟩⟩, k⟩, PySem.W.mg_of X G a⟩
theorem end_mk {l : PySem.W.OpenLaw} {w : World} {K : PySem.W.Frag} {mg : Str → Option Value} {fa : Addr} (hfa : mg "law" = some (.ref fa)) (B : Bt mg) (dB : BookX K mg) (d0 : DfX K mg "_law_take" s_law_take) (d1 : DfX K mg "_law_one_of" s_law_one_of) (d2 : DfX K mg "_law_strewn" s_law_strewn) (d3 : DfX K mg "_law_ringless" s_law_ringless) (d4 : DfX K mg "_law_hall" s_law_hall) (d5 : DfX K mg "_law_beat" s_law_beat) (d6 : DfX K mg "_law_cut" s_law_cut) (d7 : DfX K mg "_law_history" s_law_history) (d8 : DfX K mg "_law_same" s_law_same) (d9 : DfX K mg "_law_as_lists" s_law_as_lists) (d10 : DfX K mg "_law_dates" s_law_dates) (d11 : DfX K mg "_law_walk" s_law_walk) (d12 : DfX K mg "_law_shown" s_law_shown) (d13 : DfX K mg "slate_rows" s_slate_rows) (d14 : DfX K mg "last_slates" s_last_slates) (d15 : DfX K mg "looks_along" s_looks_along) (d16 : DfX K mg "hanging_trails" s_hanging_trails) (d17 : DfX K mg "hanging_trail" s_hanging_trail) (d18 : DfX K mg "is_number" s_is_number) (d19 : DfX K mg "is_number_below" s_is_number_below) (d20 : DfX K mg "is_trail" s_is_trail) (d21 : DfX K mg "latest_call" s_latest_call) (d22 : DfK K mg "dates" s_dates [("ahead", .non)]) (d23 : DfX K mg "shows_hanging" s_shows_hanging) (d24 : DfX K mg "_law_right" s_law_right) (d25 : DfX K mg "_law_folded" s_folded) (d26 : DfX K mg "_law_dip" s_dip) (d27 : DfX K mg "law" s_law) :
    ∃ fd : FuncData, (∀ (s : Shared) (v : Value), BindsTo s fd ⟨[v], []⟩ [("_law_script", v)]) ∧ ∀ base : Heap, K.In base → base.Ns mainGlobals mg → FnG l.prog w K mg base 7 fa fd ["_law_script"] (spLaw K) := by
  obtain ⟨C, T, mkC, kpC, m_init, m_written, m_is_first⟩ := dB.ex
  obtain ⟨f0, fd0, F0, g0⟩ := d0.ex
  have b0 := F0.binds (ps := ["_law_box", "_law_many"]) fun _ _ _ _ _ _ us hl => match us, hl with | [_, _], _ => rfl
  obtain ⟨f1, fd1, F1, g1⟩ := d1.ex
  have b1 := F1.binds (ps := ["_law_box", "_law_pool"]) fun _ _ _ _ _ _ us hl => match us, hl with | [_, _], _ => rfl
  obtain ⟨f2, fd2, F2, g2⟩ := d2.ex
  have b2 := F2.binds (ps := ["_law_box", "_law_pool"]) fun _ _ _ _ _ _ us hl => match us, hl with | [_, _], _ => rfl
  obtain ⟨f3, fd3, F3, g3⟩ := d3.ex
  have b3 := F3.binds (ps := ["_law_box", "_law_most"]) fun _ _ _ _ _ _ us hl => match us, hl with | [_, _], _ => rfl
  obtain ⟨f4, fd4, F4, g4⟩ := d4.ex
  have b4 := F4.binds (ps := ["_law_box", "_law_most"]) fun _ _ _ _ _ _ us hl => match us, hl with | [_, _], _ => rfl
  obtain ⟨f5, fd5, F5, g5⟩ := d5.ex
  have b5 := F5.binds (ps := ["_law_box", "_law_many"]) fun _ _ _ _ _ _ us hl => match us, hl with | [_, _], _ => rfl
  obtain ⟨f6, fd6, F6, g6⟩ := d6.ex
  have b6 := F6.binds (ps := ["_law_history_here", "_law_calls"]) fun _ _ _ _ _ _ us hl => match us, hl with | [_, _], _ => rfl
  obtain ⟨f7, fd7, F7, g7⟩ := d7.ex
  have b7 := F7.binds (ps := ["_law_box", "_law_many", "_law_beats"]) fun _ _ _ _ _ _ us hl => match us, hl with | [_, _, _], _ => rfl
  obtain ⟨f8, fd8, F8, g8⟩ := d8.ex
  have b8 := F8.binds (ps := ["_law_found", "_law_due"]) fun _ _ _ _ _ _ us hl => match us, hl with | [_, _], _ => rfl
  obtain ⟨f9, fd9, F9, g9⟩ := d9.ex
  have b9 := F9.binds (ps := ["_law_thing"]) fun _ _ _ _ _ _ us hl => match us, hl with | [_], _ => rfl
  obtain ⟨f10, fd10, F10, g10⟩ := d10.ex
  have b10 := F10.binds (ps := ["_law_history_here", "_law_trail", "_law_far"]) fun _ _ _ _ _ _ us hl => match us, hl with | [_, _, _], _ => rfl
  obtain ⟨f11, fd11, F11, g11⟩ := d11.ex
  have b11 := F11.binds (ps := ["_law_box", "_law_hall_here", "_law_person", "_law_long"]) fun _ _ _ _ _ _ us hl => match us, hl with | [_, _, _, _], _ => rfl
  obtain ⟨f12, fd12, F12, g12⟩ := d12.ex
  have b12 := F12.binds (ps := ["_law_hall_here", "_law_history_here", "_law_person", "_law_other", "_law_matter"]) fun _ _ _ _ _ _ us hl => match us, hl with | [_, _, _, _, _], _ => rfl
  obtain ⟨f13, fd13, F13, g13⟩ := d13.ex
  have b13 := F13.binds (ps := ["book", "hall", "history"]) fun _ _ _ _ _ _ us hl => match us, hl with | [_, _, _], _ => rfl
  obtain ⟨f14, fd14, F14, g14⟩ := d14.ex
  have b14 := F14.binds (ps := ["book", "hall", "history"]) fun _ _ _ _ _ _ us hl => match us, hl with | [_, _, _], _ => rfl
  obtain ⟨f15, fd15, F15, g15⟩ := d15.ex
  have b15 := F15.binds (ps := ["book", "hall", "person", "writing"]) fun _ _ _ _ _ _ us hl => match us, hl with | [_, _, _, _], _ => rfl
  obtain ⟨f16, fd16, F16, g16⟩ := d16.ex
  have b16 := F16.binds (ps := ["hall", "history", "person"]) fun _ _ _ _ _ _ us hl => match us, hl with | [_, _, _], _ => rfl
  obtain ⟨f17, fd17, F17, g17⟩ := d17.ex
  have b17 := F17.binds (ps := ["hall", "history", "person", "other"]) fun _ _ _ _ _ _ us hl => match us, hl with | [_, _, _, _], _ => rfl
  obtain ⟨f18, fd18, F18, g18⟩ := d18.ex
  have b18 := F18.binds (ps := ["thing"]) fun _ _ _ _ _ _ us hl => match us, hl with | [_], _ => rfl
  obtain ⟨f19, fd19, F19, g19⟩ := d19.ex
  have b19 := F19.binds (ps := ["thing", "many"]) fun _ _ _ _ _ _ us hl => match us, hl with | [_, _], _ => rfl
  obtain ⟨f20, fd20, F20, g20⟩ := d20.ex
  have b20 := F20.binds (ps := ["hall", "thing"]) fun _ _ _ _ _ _ us hl => match us, hl with | [_, _], _ => rfl
  obtain ⟨f21, fd21, F21, g21⟩ := d21.ex
  have b21 := F21.binds (ps := ["history", "person", "ahead"]) fun _ _ _ _ _ _ us hl => match us, hl with | [_, _, _], _ => rfl
  obtain ⟨f22, fd22, F22, FD22, g22⟩ := d22.ex
  obtain ⟨ds22, v22, db22⟩ := FD22.binds0 (ps := ["hall", "history", "trail", "ahead"]) 3 (by decide) rfl fun D doc pm an cdv ct us ks hu hk => match us, ks, hu, hk with | [_, _, _], [_], _, _ => ⟨_, _, _, _, _, _, rfl, rfl, rfl⟩
  obtain ⟨f23, fd23, F23, g23⟩ := d23.ex
  have b23 := F23.binds (ps := ["hall", "history", "person", "other", "thing"]) fun _ _ _ _ _ _ us hl => match us, hl with | [_, _, _, _, _], _ => rfl
  obtain ⟨f24, fd24, F24, g24⟩ := d24.ex
  have b24 := F24.binds (ps := ["_law_box"]) fun _ _ _ _ _ _ us hl => match us, hl with | [_], _ => rfl
  obtain ⟨f25, fd25, F25, g25⟩ := d25.ex
  have b25 := F25.binds (ps := ["_law_script", "_law_many"]) fun _ _ _ _ _ _ us hl => match us, hl with | [_, _], _ => rfl
  obtain ⟨f26, fd26, F26, g26⟩ := d26.ex
  have b26 := F26.binds (ps := ["_law_script", "_law_k"]) fun _ _ _ _ _ _ us hl => match us, hl with | [_, _], _ => rfl
  obtain ⟨f27, fd27, F27, g27⟩ := d27.ex
  have b27 := F27.binds (ps := ["_law_script"]) fun _ _ _ _ _ _ us hl => match us, hl with | [_], _ => rfl
  have e := hfa.symm.trans g27
  cases e
  have hb : ∀ (s : Shared) (v : Value), BindsTo s fd27 ⟨[v], []⟩ [("_law_script", v)] := by
    obtain ⟨oc, od, kV, doc, pm, an, cdv, ct, osl, rfl, lk, hcd⟩ := F27.ex
    exact fun s v => .of_eq rfl
  refine ⟨fd27, hb, fun base _ _ => ?_⟩
  have K_Book : Kc l.prog w K mg base "Book" C 2 1 (con_book C) := book_kc B T mkC kpC m_init
  have K_written : Km (S := Own) l.prog w K mg base C "written" 1 3 (con_written C) := book_kw B T m_written
  have K_is_first : Km (S := Nat) l.prog w K mg base C "is_first" 1 2 (con_is_first Nat C) := book_kf B T m_is_first
  have K_law_take : Kf l.prog w K mg base "_law_take" 1 2 con_law_take := Kf.of (ok_law_take F0 B ) g0 F0.kp b0
  have K_law_one_of : Kf l.prog w K mg base "_law_one_of" 2 2 con_law_one_of := Kf.of (ok_law_one_of F1 B K_law_take) g1 F1.kp b1
  have K_law_strewn : Kf l.prog w K mg base "_law_strewn" 2 2 con_law_strewn := Kf.of (ok_law_strewn F2 B K_law_take) g2 F2.kp b2
  have K_law_ringless : Kf l.prog w K mg base "_law_ringless" 3 2 con_law_ringless := Kf.of (ok_law_ringless F3 B K_law_strewn K_law_take) g3 F3.kp b3
  have K_law_hall : Kf l.prog w K mg base "_law_hall" 4 2 con_law_hall := Kf.of (ok_law_hall F4 B K_law_ringless K_law_take) g4 F4.kp b4
  have K_law_beat : Kf l.prog w K mg base "_law_beat" 2 2 con_law_beat := Kf.of (ok_law_beat F5 B K_law_take) g5 F5.kp b5
  have K_law_cut : Kf l.prog w K mg base "_law_cut" 1 2 con_law_cut := Kf.of (ok_law_cut F6 B ) g6 F6.kp b6
  have K_law_history : Kf l.prog w K mg base "_law_history" 3 3 con_law_history := Kf.of (ok_law_history F7 B K_law_beat K_law_cut K_law_take) g7 F7.kp b7
  have K_law_same0 : Kf l.prog w K mg base "_law_same" 0 2 (con_law_same 0) := Kf.none 0 rfl g8 F8.kp b8
  have K_law_same1 : Kf l.prog w K mg base "_law_same" 1 2 (con_law_same 1) := Kf.of (ok_law_same F8 B K_law_same0) g8 F8.kp b8
  have K_law_same2 : Kf l.prog w K mg base "_law_same" 2 2 (con_law_same 2) := Kf.of (ok_law_same F8 B K_law_same1) g8 F8.kp b8
  have K_law_same3 : Kf l.prog w K mg base "_law_same" 3 2 (con_law_same 3) := Kf.of (ok_law_same F8 B K_law_same2) g8 F8.kp b8
  have K_law_as_lists0 : Kf l.prog w K mg base "_law_as_lists" 0 1 (con_law_as_lists 0) := Kf.none 0 rfl g9 F9.kp b9
  have K_law_as_lists1 : Kf l.prog w K mg base "_law_as_lists" 1 1 (con_law_as_lists 1) := Kf.of (ok_law_as_lists F9 B K_law_as_lists0) g9 F9.kp b9
  have K_law_as_lists2 : Kf l.prog w K mg base "_law_as_lists" 2 1 (con_law_as_lists 2) := Kf.of (ok_law_as_lists F9 B K_law_as_lists1) g9 F9.kp b9
  have K_law_as_lists3 : Kf l.prog w K mg base "_law_as_lists" 3 1 (con_law_as_lists 3) := Kf.of (ok_law_as_lists F9 B K_law_as_lists2) g9 F9.kp b9
  have K_law_dates : Kf l.prog w K mg base "_law_dates" 1 3 con_law_dates := Kf.of (ok_law_dates F10 B ) g10 F10.kp b10
  have K_law_walk : Kf l.prog w K mg base "_law_walk" 3 4 con_law_walk4 := Kf.of (ok_law_walk4 F11 B K_law_one_of K_law_take) g11 F11.kp b11
  have K_law_shown : Kf l.prog w K mg base "_law_shown" 2 5 (con_law_shown Nat) := Kf.of (ok_law_shown F12 B K_law_dates) g12 F12.kp b12
  have K_slate_rows : Kf l.prog w K mg base "slate_rows" 2 3 (con_slate_rows C) := Kf.of (ok_slate_rows F13 B T K_written) g13 F13.kp b13
  have K_last_slates : Kf l.prog w K mg base "last_slates" 3 3 (con_last_slates C) := Kf.of (ok_last_slates F14 B K_slate_rows) g14 F14.kp b14
  have K_looks_along : Kf l.prog w K mg base "looks_along" 2 4 (con_looks_along Nat C) := Kf.of (ok_looks_along F15 B T K_is_first) g15 F15.kp b15
  have K_hanging_trails : KfO l.prog w K mg base "hanging_trails" 4 3 (con_hanging_trails Nat) := ⟨⟨f16, fd16, _, ok_hanging_trails F16 B T K_Book K_last_slates K_looks_along K_is_first, g16, F16.kp, b16⟩⟩
  have K_hanging_trail : Kf l.prog w K mg base "hanging_trail" 5 4 (con_hanging_trail Nat) := Kf.of (ok_hanging_trail F17 B K_hanging_trails) g17 F17.kp b17
  have K_is_number : Kf l.prog w K mg base "is_number" 1 1 (con_is_number Nat) := Kf.of (ok_is_number F18 B ) g18 F18.kp b18
  have K_is_number_below : Kf l.prog w K mg base "is_number_below" 2 2 (con_is_below Nat) := Kf.of (ok_is_number_below F19 B K_is_number) g19 F19.kp b19
  have K_is_trail : Kf l.prog w K mg base "is_trail" 3 2 (con_is_trail Nat) := Kf.of (ok_is_trail F20 B K_is_number_below) g20 F20.kp b20
  have K_latest_call : Kf l.prog w K mg base "latest_call" 1 3 con_latest_call := Kf.of (ok_latest_call F21 B ) g21 F21.kp b21
  have K_dates_d3 : KdO l.prog w K mg base "dates" 2 4 con_dates [.non] [.im .none] := ⟨f22, fd22, _, ds22, ok_dates F22 B K_latest_call, g22, F22.kp, db22, v22, fun bo G => .cons (a := .im .none) .non .nil⟩
  have K_dates_ahead : KwO l.prog w K mg base "dates" 2 4 con_dates 3 ["ahead"] (fun vs zs => vs ++ zs) (fun vs zs => vs ++ zs) := ⟨f22, fd22, _, _, ok_dates F22 B K_latest_call, g22, F22.kp, Fun.kbn (ps := ["hall", "history", "trail", "ahead"]) F22 3 ["ahead"] (fun {α} (a b : List α) => a ++ b) vals_app (fun _ _ _ _ _ _ us ws h1 h2 => match us, ws, h1, h2 with | [_, _, _], [_], _, _ => rfl), fun bo G vs as zs bs h1 h2 _ _ => h1.app h2⟩
  have K_shows_hanging : Kf l.prog w K mg base "shows_hanging" 4 5 con_shows_hanging := Kf.of (ok_shows_hanging F23 B K_dates_d3 K_is_trail) g23 F23.kp b23
  have G_law_right := ok_law_right (P := l.prog) (w := w) (base := base) F24 B K_law_as_lists3 K_law_hall K_law_history K_law_one_of K_law_same3 K_law_shown K_law_take K_law_walk K_hanging_trail K_shows_hanging
  have G_law_folded := ok_folded (P := l.prog) (w := w) (base := base) F25 B 
  have G_law_dip := ok_dip (P := l.prog) (w := w) (base := base) F26 B 
  exact ok_lawG F27 B G_law_folded g25 F25.kp b25 G_law_dip g26 F26.kp b26 G_law_right g24 F24.kp b24
end K25
open PySem PySem.W PyProof.Rows
set_option maxHeartbeats 0 in
theorem PySem.Challenge.cw_looktrails_k25_trails_that_show_what_mat_holds : PySem.Challenge.rw_looktrails_k25_trails_that_show_what_mat.Holds := by
  w_on; o_law; k_head; (case hw => w_witness2)
  k_fill
  refine DL.walk_ofG (l := PySem.Challenge.rw_looktrails_k25_trails_that_show_what_mat) (n := 63) (k := 7) (x := "_law_script") (sp := fun w => K25.spLaw _) rfl (by decide) rfl ⟨rfl, by decide, by decide⟩ (fun w h Y => PySem.W.kIn_of Y) ?F (fun _ _ a ns hl _ hS => ⟨a, ns, rfl, hS, hl, fun _ => rfl⟩)
  case F =>
    intro w mg fa h KX G hmg
    refine' K25.end_mk hmg ?B ?dB ?d0 ?d1 ?d2 ?d3 ?d4 ?d5 ?d6 ?d7 ?d8 ?d9 ?d10 ?d11 ?d12 ?d13 ?d14 ?d15 ?d16 ?d17 ?d18 ?d19 ?d20 ?d21 ?d22 ?d23 ?d24 ?d25 ?d26 ?d27
    case B => constructor <;> exact PySem.W.mg_none_of KX G (by k_is)
    case dB =>
      refine' K25.book_mk KX G ?aC ?pg ?hd ?po ?sa ?nK ?nL ?mk ?kc (K25.mt_mk ?a0 ?i0 ?l0 ?c0 ?k0) (K25.mt_mk ?a1 ?i1 ?l1 ?c1 ?k1) (K25.mt_mk ?a2 ?i2 ?l2 ?c2 ?k2)
      (case aC => k_is); (case pg => k_is); (case hd => k_is); (case po => k_is); (case sa => k_is); (case nK => k_is); (case nL => k_is); (case mk => k_is); (case kc => k_is); (case a0 => k_is); (case i0 => k_is); (case l0 => k_is); (case c0 => k_is); (case k0 => k_is); (case a1 => k_is); (case i1 => k_is); (case l1 => k_is); (case c1 => k_is); (case k1 => k_is); (case a2 => k_is); (case i2 => k_is); (case l2 => k_is); (case c2 => k_is); (case k2 => k_is)
    case d0 =>
      refine' K25.df_mk KX G ?a ?l ?c ?k
      (case a => k_is); (case l => k_is); (case c => k_is); (case k => k_is)
    case d1 =>
      refine' K25.df_mk KX G ?a ?l ?c ?k
      (case a => k_is); (case l => k_is); (case c => k_is); (case k => k_is)
    case d2 =>
      refine' K25.df_mk KX G ?a ?l ?c ?k
      (case a => k_is); (case l => k_is); (case c => k_is); (case k => k_is)
    case d3 =>
      refine' K25.df_mk KX G ?a ?l ?c ?k
      (case a => k_is); (case l => k_is); (case c => k_is); (case k => k_is)
    case d4 =>
      refine' K25.df_mk KX G ?a ?l ?c ?k
      (case a => k_is); (case l => k_is); (case c => k_is); (case k => k_is)
    case d5 =>
      refine' K25.df_mk KX G ?a ?l ?c ?k
      (case a => k_is); (case l => k_is); (case c => k_is); (case k => k_is)
    case d6 =>
      refine' K25.df_mk KX G ?a ?l ?c ?k
      (case a => k_is); (case l => k_is); (case c => k_is); (case k => k_is)
    case d7 =>
      refine' K25.df_mk KX G ?a ?l ?c ?k
      (case a => k_is); (case l => k_is); (case c => k_is); (case k => k_is)
    case d8 =>
      refine' K25.df_mk KX G ?a ?l ?c ?k
      (case a => k_is); (case l => k_is); (case c => k_is); (case k => k_is)
    case d9 =>
      refine' K25.df_mk KX G ?a ?l ?c ?k
      (case a => k_is); (case l => k_is); (case c => k_is); (case k => k_is)
    case d10 =>
      refine' K25.df_mk KX G ?a ?l ?c ?k
      (case a => k_is); (case l => k_is); (case c => k_is); (case k => k_is)
    case d11 =>
      refine' K25.df_mk KX G ?a ?l ?c ?k
      (case a => k_is); (case l => k_is); (case c => k_is); (case k => k_is)
    case d12 =>
      refine' K25.df_mk KX G ?a ?l ?c ?k
      (case a => k_is); (case l => k_is); (case c => k_is); (case k => k_is)
    case d13 =>
      refine' K25.df_mk KX G ?a ?l ?c ?k
      (case a => k_is); (case l => k_is); (case c => k_is); (case k => k_is)
    case d14 =>
      refine' K25.df_mk KX G ?a ?l ?c ?k
      (case a => k_is); (case l => k_is); (case c => k_is); (case k => k_is)
    case d15 =>
      refine' K25.df_mk KX G ?a ?l ?c ?k
      (case a => k_is); (case l => k_is); (case c => k_is); (case k => k_is)
    case d16 =>
      refine' K25.df_mk KX G ?a ?l ?c ?k
      (case a => k_is); (case l => k_is); (case c => k_is); (case k => k_is)
    case d17 =>
      refine' K25.df_mk KX G ?a ?l ?c ?k
      (case a => k_is); (case l => k_is); (case c => k_is); (case k => k_is)
    case d18 =>
      refine' K25.df_mk KX G ?a ?l ?c ?k
      (case a => k_is); (case l => k_is); (case c => k_is); (case k => k_is)
    case d19 =>
      refine' K25.df_mk KX G ?a ?l ?c ?k
      (case a => k_is); (case l => k_is); (case c => k_is); (case k => k_is)
    case d20 =>
      refine' K25.df_mk KX G ?a ?l ?c ?k
      (case a => k_is); (case l => k_is); (case c => k_is); (case k => k_is)
    case d21 =>
      refine' K25.df_mk KX G ?a ?l ?c ?k
      (case a => k_is); (case l => k_is); (case c => k_is); (case k => k_is)
    case d22 =>
      refine' K25.dfk_mk KX G ?a ?l ?c ?k ?kq
      (case a => k_is); (case l => k_is); (case c => k_is); (case k => k_is); (case kq => k_is)
    case d23 =>
      refine' K25.df_mk KX G ?a ?l ?c ?k
      (case a => k_is); (case l => k_is); (case c => k_is); (case k => k_is)
    case d24 =>
      refine' K25.df_mk KX G ?a ?l ?c ?k
      (case a => k_is); (case l => k_is); (case c => k_is); (case k => k_is)
    case d25 =>
      refine' K25.df_mk KX G ?a ?l ?c ?k
      (case a => k_is); (case l => k_is); (case c => k_is); (case k => k_is)
    case d26 =>
      refine' K25.df_mk KX G ?a ?l ?c ?k
      (case a => k_is); (case l => k_is); (case c => k_is); (case k => k_is)
    case d27 =>
      refine' K25.df_mk KX G ?a ?l ?c ?k
      (case a => k_is); (case l => k_is); (case c => k_is); (case k => k_is)

