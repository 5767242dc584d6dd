"""house.py: point [18], and [1] (g), (i)."""

import copy
import inspect
import random
import unittest

import samples
import slow
from looktrails.alike import are_alike
from looktrails.errors import BadDeed, Called, NoBeat, NoPerson, NotCalled, Unlike
from looktrails.hangs import hangs_on
from looktrails.house import House
from looktrails.least import earliest
from looktrails.versions import version_at

ANYTHING = (
    -1, 99, 10**30, True, False, None, "", "0", (), [], (0,), [0], [[0]], ((0,), [1]), "late", -(10**30),
)
HALL = ((), (0,), (0, 1, 2))
DEED_REFUSALS = (NoBeat, NoPerson, Called, NotCalled)


class Plain:
    """A house kept the plain way: whole histories, put aside deed by deed."""

    def __init__(self, hall):
        self.hall, self.rows, self.aside, self.entries = hall, [], [], []

    def told(self, behind):
        mine, yours = slow.last_trees(self.hall, self.rows), slow.last_trees(self.hall, behind)
        self.aside.append(self.rows)
        self.rows = behind
        return [person for person in range(len(self.hall)) if mine[person] != yours[person]]

    def refusal(self, word, beat, person):
        """The refusal that is due and its field, or None."""
        if type(beat) is not int or not 0 <= beat < len(self.rows):
            return NoBeat, beat
        if type(person) is not int or not 0 <= person < len(self.hall):
            return NoPerson, person
        there = person in self.rows[beat]
        if word == "late" and there:
            return Called, person
        if word == "strike" and not there:
            return NotCalled, person
        return None

    def done(self, word, *things):
        """What a deed tells, a pair of a refusal and its field where it's refused."""
        self.entries.append(("in", word))
        told = self.tell(word, *things)
        self.entries.append(("out", word))
        return told

    def tell(self, word, *things):
        if word == "call":
            return self.told(self.rows + [tuple(things[0])])
        if word == "cut":
            self.told(earliest(self.hall, self.rows))
            return None
        if word == "undo":
            had = bool(self.aside)
            if had:
                self.rows = self.aside.pop()
            return had
        refused = self.refusal(word, *things)
        if refused:
            return refused
        beat, person = things
        persons = set(self.rows[beat]) ^ {person}
        return self.told(self.rows[:beat] + [tuple(sorted(persons))] + self.rows[beat + 1 :])

    def do(self, deeds, whole):
        rows, aside = self.rows, list(self.aside)
        self.entries.append(("in", "do"))
        told = []
        for deed in deeds:
            told.append(self.done(*deed))
            if type(told[-1]) is tuple:
                if whole:
                    self.rows, self.aside = rows, aside
                told = told[-1]
                break
        self.entries.append(("out", "do"))
        return told


def asked(deed):
    """What a deed tells, a pair of a refusal and its field where it's refused."""
    try:
        return deed()
    except NoBeat as refusal:
        return NoBeat, refusal.beat
    except (NoPerson, Called, NotCalled) as refusal:
        return type(refusal), refusal.person


def drawn_deed(source, plain, wrong=0.3):
    """A deed of a do, drawn by chance, sometimes one that's refused."""
    word = source.choice(["call", "call", "late", "late", "strike", "cut"])
    if word == "call":
        return word, samples.random_history(source, len(plain.hall), 1)[0]
    if word == "cut":
        return (word,)
    if source.random() < wrong:
        return word, source.choice([0, 1, *ANYTHING]), source.choice([0, 1, *ANYTHING])
    return word, source.randrange(len(plain.rows) + 1), source.randrange(len(plain.hall))


def made(hall, history):
    """A House with that history, made anew."""
    house = House(hall)
    for beat in history:
        house.call(beat)
    return house


def state_of(house):
    """All that a house tells but its log."""
    many = len(house.hall())
    return (
        house.hall(), house.history(), house.deeds(), len(house), repr(house), house.least(),
        house.least(watched=[0]), [house.version(person) for person in range(many)],
        [house.hangs(person) for person in range(many)],
    )


class Deeds(unittest.TestCase):
    def refused(self, kind, deed, *things):
        with self.assertRaises(kind) as refusal:
            deed(*things)
        return refusal.exception

    def test_of_no_beats_at_first(self):
        house = House(HALL)
        self.assertEqual((house.hall(), house.history(), house.deeds(), len(house)), (HALL, [], 0, 0))
        self.assertEqual(house.log(), [])
        self.assertEqual(house.least(), [])

    def test_call(self):
        house = House(HALL)
        self.assertEqual(house.call([0, 2]), [0, 2])
        self.assertEqual(house.call((0, 1)), [1])
        self.assertEqual(house.call([]), [])
        self.assertEqual(house.call([1]), [])
        self.assertEqual(house.call([2]), [2])
        self.assertEqual(house.history(), [(0, 2), (0, 1), (), (1,), (2,)])
        self.assertEqual(house.deeds(), 5)

    def test_late_and_strike(self):
        house = made(HALL, [(0,), (1,), ()])
        self.assertEqual(house.late(2, 0), [])
        self.assertEqual(house.late(2, 2), [2])
        self.assertEqual(house.strike(0, 0), [1, 2])
        self.assertEqual(house.history(), [(), (1,), (0, 2)])
        self.assertEqual(house.strike(2, 2), [2])
        self.assertEqual(house.strike(1, 1), [1])
        self.assertEqual(house.history(), [(), (), (0,)])
        self.assertEqual(len(house), 3)

    def test_late_keeps_the_beat_rising(self):
        house = made(HALL, [(1,)])
        house.late(0, 2)
        house.late(0, 0)
        self.assertEqual(house.history(), [(0, 1, 2)])

    def test_cut(self):
        house = made(HALL, [(), (1,), (0,), (0, 1)])
        self.assertIsNone(house.cut())
        self.assertEqual(house.history(), [(0,), (1,)])
        self.assertEqual(house.deeds(), 5)
        self.assertIsNone(house.cut())
        self.assertEqual(house.deeds(), 6)
        self.assertIs(house.undo(), True)
        self.assertEqual(house.history(), [(0,), (1,)])
        self.assertIs(house.undo(), True)
        self.assertEqual(house.history(), [(), (1,), (0,), (0, 1)])

    def test_cut_of_no_beats_is_a_deed(self):
        house = House(HALL)
        house.cut()
        self.assertEqual((house.deeds(), house.history()), (1, []))
        self.assertIs(house.undo(), True)
        self.assertIs(house.undo(), False)

    def test_undo_of_each_deed(self):
        house = House(HALL)
        self.assertIs(house.undo(), False)
        before = []
        for deed in (lambda: house.call([0, 1]), lambda: house.call([]), lambda: house.late(1, 2),
                     lambda: house.strike(0, 1), house.cut, lambda: house.call([2]), house.cut):
            before.append(state_of(house))
            deed()
        for state in reversed(before):
            self.assertIs(house.undo(), True)
            self.assertEqual(state_of(house), state)
        self.assertIs(house.undo(), False)
        self.assertIs(house.undo(), False)

    def test_what_is_undone_cannot_be_undone_again(self):
        house = made(HALL, [(0,), (1,)])
        house.undo()
        house.call([2])
        house.undo()
        house.undo()
        self.assertEqual(house.history(), [])
        self.assertIs(house.undo(), False)

    def test_refused_of_anything_in_the_order_told(self):
        for word in ("late", "strike"):
            for beat in (0, 1, 2, *ANYTHING):
                for person in (0, 2, 3, *ANYTHING):
                    house = made(HALL, [(0,), (0, 2)])
                    plain = Plain(HALL)
                    plain.rows = [(0,), (0, 2)]
                    state = state_of(house)
                    deed = getattr(house, word)
                    told = asked(lambda: deed(beat, person))
                    due = plain.refusal(word, beat, person)
                    if due is None:
                        self.assertIs(type(told), list)
                        continue
                    self.assertEqual((told[0], repr(told[1])), (due[0], repr(due[1])), (word, beat, person))
                    self.assertEqual(state_of(house), state)
                    self.assertEqual(house.log()[-2:], [("in", word), ("out", word)])

    def test_refusals_keep_nothing_of_what_was_handed_in(self):
        house = made(HALL, [(0,)])
        thing = [0, [1]]
        first = self.refused(NoBeat, house.late, thing, 0)
        second = self.refused(NoPerson, house.strike, 0, thing)
        thing[1].append(2)
        self.assertEqual((first.beat, second.person), ([0, [1]], [0, [1]]))

    def test_the_history_keeps_nothing_of_what_was_handed_in(self):
        hall = [[], [0], [0, 1, 2]]
        house = House(hall)
        persons = [0, 1]
        house.call(persons)
        deeds = [["call", [2]], ["late", 1, 0]]
        house.do(deeds)
        persons.append(2)
        hall[0].append(2)
        deeds[0][1].append(1)
        self.assertEqual(house.hall(), HALL)
        self.assertEqual(house.history(), [(0, 1), (0, 2)])
        self.assertEqual(samples.kinds_of(house.history()), samples.kinds_of([(0, 1), (0, 2)]))
        self.assertEqual(samples.kinds_of(house.hall()), samples.kinds_of(HALL))

    def test_just_those_that_hang_on_the_call_are_told(self):
        for hall, history in samples.drawn_questions(60, (2, 4), 4):
            for beat in range(len(history)):
                for person in range(len(hall)):
                    house = made(hall, history)
                    deed = house.strike if person in history[beat] else house.late
                    told = deed(beat, person)
                    mine, yours = slow.last_trees(hall, history), slow.last_trees(hall, house.history())
                    self.assertEqual(told, [one for one in range(len(hall)) if mine[one] != yours[one]])
                    back = house.late if deed == house.strike else house.strike
                    self.assertEqual(back(beat, person), told)
                    self.assertEqual(house.history(), history)


class Do(unittest.TestCase):
    def bad(self, house, deeds, **others):
        with self.assertRaises(BadDeed) as refusal:
            house.do(deeds, **others)
        return refusal.exception.number

    def test_told_ones(self):
        house = House(HALL)
        deeds = [("call", (0,)), ["call", [1, 2]], ("late", 0, 1), ["strike", 1, 2], ("cut",)]
        self.assertEqual(house.do(deeds), [[0], [1, 2], [2], [2], None])
        self.assertEqual(house.history(), [(0,), (1,)])
        self.assertEqual(house.deeds(), 5)
        self.assertEqual(house.do([]), [])
        self.assertEqual(house.do(()), [])
        self.assertEqual(house.deeds(), 5)

    def test_each_is_undone_by_itself(self):
        house = House(HALL)
        house.do([("call", (0,)), ("call", (1,)), ("late", 0, 2)])
        house.undo()
        self.assertEqual(house.history(), [(0,), (1,)])
        house.undo()
        self.assertEqual(house.history(), [(0,)])
        self.assertEqual(house.deeds(), 1)

    def test_no_deeds_by_word_and_how_many_things(self):
        for deed in (
            (), [], ("undo",), ("do", []), ("do",), ("call",), ("call", (0,), 1), ("late", 0), ("late",),
            ("late", 0, 0, 0), ("strike", 0), ("strike", 0, 0, 0), ("cut", 0), ("cut", ()), ("Cut",), ("",),
            ("history",), ("twin",), (None,),
            (0,), (True, 0), ((), 0), ([], 0, 0), (("late",), 0, 0), ("cut ",), ("log",), ("len",), ("go_to", []),
        ):
            for whole in (True, False):
                house = made(HALL, [(0,)])
                state, log = state_of(house), house.log()
                self.assertEqual(self.bad(house, [deed], whole=whole), 0, deed)
                self.assertEqual(self.bad(house, [("call", (1,)), ("late", 9, 9), deed, ()], whole=whole), 2)
                self.assertEqual(self.bad(house, ((("cut",), deed, ("cut",))), whole=whole), 1)
                self.assertEqual(state_of(house), state)
                self.assertEqual(house.log(), log)

    def test_refused_in_the_midst_whole(self):
        for refused, kind in (
            (("late", 9, 0), NoBeat), (("late", 0, 9), NoPerson), (("late", 0, 0), Called),
            (("strike", 0, 2), NotCalled),
            (["strike", [0], 0], NoBeat), (("strike", 0, None), NoPerson),
        ):
            house = made(HALL, [(0,), (1,)])
            house.late(1, 0)
            state = state_of(house)
            deeds = [("call", (2,)), ("strike", 1, 0), ("cut",), refused, ("call", (0,))]
            if kind in (Called, NotCalled):
                deeds.remove(("cut",))
            for others in ({}, {"whole": True}):
                with self.assertRaises(kind):
                    house.do(deeds, **others)
                self.assertEqual(state_of(house), state)
            house.undo()
            self.assertEqual(house.history(), [(0,), (1,)])

    def test_refused_in_the_midst_and_not_whole(self):
        house = made(HALL, [(0,)])
        with self.assertRaises(Called) as refusal:
            house.do([("call", (2,)), ("late", 0, 1), ("late", 0, 1), ("call", ())], whole=False)
        self.assertEqual(refusal.exception.person, 1)
        self.assertEqual(house.history(), [(0, 1), (2,)])
        self.assertEqual(house.deeds(), 3)
        house.undo()
        self.assertEqual(house.history(), [(0,), (2,)])
        house.undo()
        self.assertEqual(house.history(), [(0,)])

    def test_what_was_undone_whole_cannot_be_undone_any_more(self):
        house = made(HALL, [(0,)])
        self.assertRaises(NoBeat, house.do, [("call", (1,)), ("late", 9, 9)])
        self.assertEqual(house.deeds(), 1)
        self.assertIs(house.undo(), True)
        self.assertIs(house.undo(), False)

    def test_whole_by_its_name_alone(self):
        self.assertRaises(TypeError, House(HALL).do, [], True)


class Log(unittest.TestCase):
    def test_both_ends_of_each(self):
        house = House(HALL)
        house.call([0])
        house.undo()
        house.undo()
        house.cut()
        self.assertRaises(NoBeat, house.late, 0, 0)
        self.assertRaises(NoBeat, house.strike, 0, 0)
        words = ["call", "undo", "undo", "cut", "late", "strike"]
        self.assertEqual(house.log(), [(end, word) for word in words for end in ("in", "out")])

    def test_those_within_a_do(self):
        house = House(HALL)
        house.do([("call", (0,)), ("cut",)])
        right = [
            ("in", "do"), ("in", "call"), ("out", "call"), ("in", "cut"), ("out", "cut"), ("out", "do"),
        ]
        self.assertEqual(house.log(), right)
        for whole in (True, False):
            with self.assertRaises(NotCalled):
                house.do([("call", ()), ("strike", 0, 1), ("cut",)], whole=whole)
            right += [("in", "do"), ("in", "call"), ("out", "call"), ("in", "strike"), ("out", "strike"), ("out", "do")]
            self.assertEqual(house.log(), right)
        house.do([])
        self.assertEqual(house.log(), right + [("in", "do"), ("out", "do")])

    def test_asks_are_not_in_it(self):
        house = made(HALL, [(0,)])
        log = house.log()
        state_of(house)
        house.twin()
        house.alike(house)
        self.assertRaises(NoPerson, house.version, 9)
        self.assertEqual(house == house, True)
        self.assertEqual(house.log(), log)

    def test_what_is_told_changed(self):
        house = made(HALL, [(0,)])
        asks = (house.log(), house.history(), house.least(), house.hangs(2), house.call([1]), house.do([("cut",)]))
        for told in asks:
            told.append("spoilt")
        self.assertEqual(house.log()[:2], [("in", "call"), ("out", "call")])
        self.assertNotIn("spoilt", house.log())
        self.assertEqual(house.history(), [(0,), (1,)])


class Asks(unittest.TestCase):
    def test_version_and_hangs(self):
        for hall, history in samples.drawn_questions(60):
            house = made(hall, history)
            for person in range(len(hall)):
                self.assertEqual(house.version(person), version_at(hall, history, person))
                self.assertEqual(house.version(person), slow.version_rows(hall, history)[-1][person])
                self.assertEqual(house.hangs(person), hangs_on(hall, history, person))
            self.assertEqual(house.version(person=0), house.version(0))
            self.assertEqual(house.hangs(person=0), house.hangs(0))

    def test_no_person_of_anything(self):
        house = made(HALL, [(0,)])
        for ask in (house.version, house.hangs):
            for person in (3, *ANYTHING):
                with self.assertRaises(NoPerson) as refusal:
                    ask(person)
                self.assertEqual(repr(refusal.exception.person), repr(person))

    def test_least(self):
        for hall, history in samples.drawn_questions(60):
            house = made(hall, history)
            for watched in samples.watched_choices(hall):
                self.assertEqual(house.least(watched=watched), earliest(hall, history, watched=watched))
            self.assertEqual(house.least(), earliest(hall, history))
            self.assertEqual(house.least(watched=(0, 1)), house.least(watched=[0, 1]))
        self.assertRaises(TypeError, House(HALL).least, None)

    def test_alike(self):
        for hall, one, other in samples.drawn_pairs(100):
            for watched in samples.watched_choices(hall):
                told = made(hall, one).alike(made(hall, other), watched=watched)
                self.assertIs(told, are_alike(hall, one, other, watched=watched))
            self.assertIs(made(hall, one).alike(other=made(hall, other)), are_alike(hall, one, other))
        self.assertRaises(TypeError, House(HALL).alike, House(HALL), None)

    def test_unlike_halls(self):
        for hall in (((), (0,), (0, 1)), ((), (0,)), (*HALL, ())):
            for house, other in ((House(HALL), House(hall)), (House(hall), House(HALL))):
                self.assertRaises(Unlike, house.alike, other)
                self.assertRaises(Unlike, house.alike, other, watched=[0])
                self.assertRaises(Unlike, house.alike, other, watched=[])
        self.assertIs(House(HALL).alike(House([list(row) for row in HALL])), True)

    def test_equal(self):
        self.assertIs(House(HALL) == House(samples.as_lists(HALL)), True)
        self.assertIs(made(HALL, [(0,)]) == made(HALL, [(0,)]), True)
        self.assertIs(made(HALL, [(0,)]) != made(HALL, [(0,)]), False)
        self.assertIs(made(HALL, [(0,)]) == made(HALL, [(0,), ()]), False)
        self.assertIs(made(HALL, [(0,)]) != made(HALL, [(0,), ()]), True)
        self.assertIs(made(HALL, [(0, 1)]) == made(HALL, [(0,), (1,)]), False)
        self.assertIs(House(HALL) == House(((), (0,), (0, 1))), False)
        house = made(HALL, [(0,)])
        house.call([1])
        house.undo()
        self.assertIs(house == made(HALL, [(0,)]), True)

    def test_equal_to_nothing_else(self):
        house = made(HALL, [(0,)])
        for thing in (*ANYTHING, HALL, [(0,)], (HALL, [(0,)]), house.history(), repr(house), object(), House):
            self.assertIs(house == thing, False)
            self.assertIs(thing == house, False)
            self.assertIs(house != thing, True)

    def test_repr_and_len(self):
        self.assertEqual(repr(House(HALL)), "House(3 persons, 0 beats)")
        house = made(HALL, [(0,), (), (1, 2), (), (2,)])
        self.assertEqual(repr(house), "House(3 persons, 5 beats)")
        self.assertEqual(str(house), "House(3 persons, 5 beats)")
        self.assertEqual(len(house), 5)
        self.assertEqual(repr(made(samples.NOBODY, [()])), "House(1 persons, 1 beats)")

    def test_what_is_told_is_the_askers_own(self):
        house = made(HALL, [(0,), (1, 2)])
        for ask in (house.history, house.log, house.least, lambda: house.hangs(2), lambda: house.do([])):
            told = ask()
            right = copy.deepcopy(told)
            self.assertIsNot(ask(), told)
            told.append("spoilt")
            self.assertEqual(house.history(), [(0,), (1, 2)])
            if ask != house.log:
                self.assertEqual(ask()[: len(right)], right)
                self.assertNotIn("spoilt", ask())


class Twin(unittest.TestCase):
    def test_the_same_but_for_the_log(self):
        house = made(HALL, [(0,), (1,)])
        house.late(1, 2)
        house.undo()
        twin = house.twin()
        self.assertIs(type(twin), House)
        self.assertIs(twin == house, True)
        self.assertIsNot(twin, house)
        self.assertEqual(state_of(twin), state_of(house))
        self.assertEqual(twin.log(), [])
        self.assertEqual(len(house.log()), 8)

    def test_goes_on_by_itself(self):
        house = made(HALL, [(0,), (1,)])
        twin = house.twin()
        state = state_of(house)
        twin.call([2])
        twin.undo()
        twin.undo()
        twin.late(0, 1)
        self.assertEqual(state_of(house), state)
        self.assertEqual(twin.history(), [(0, 1)])
        other = house.twin()
        house.undo()
        house.undo()
        house.undo()
        self.assertEqual(state_of(other), state)
        self.assertIs(other.undo(), True)
        self.assertIs(other.undo(), True)
        self.assertIs(other.undo(), False)


class AnyDeeds(unittest.TestCase):
    def check_same(self, house, plain):
        self.assertEqual(house.history(), plain.rows)
        self.assertEqual(house.deeds(), len(plain.aside))
        self.assertEqual(house.log(), plain.entries)
        anew = made(plain.hall, plain.rows)
        self.assertIs(house == anew, True)
        mine, yours = state_of(house), state_of(anew)
        self.assertEqual(mine[:2] + mine[3:], yours[:2] + yours[3:])
        self.assertIs(house.alike(anew), True)

    def test_a_house_tells_what_one_made_anew_tells(self):
        source = random.Random(18)
        met = {}
        for number in range(60):
            hall = samples.random_hall(source, source.randint(1, 5))
            house, plain = House(hall), Plain(hall)
            for step in range(25):
                choice = source.random()
                if choice < 0.2:
                    self.assertIs(house.undo(), plain.done("undo"))
                elif choice < 0.4:
                    deeds = [drawn_deed(source, plain, 0.1) for deed in range(source.randint(0, 4))]
                    whole = source.random() < 0.5
                    told = asked(lambda: house.do(deeds, whole=whole))
                    self.assertEqual(repr(told), repr(plain.do(deeds, whole)))
                else:
                    word, *things = drawn_deed(source, plain)
                    told = asked(lambda: getattr(house, word)(*things))
                    self.assertEqual(repr(told), repr(plain.done(word, *things)))
                met[type(told)] = met.get(type(told), 0) + 1
                if source.random() < 0.1:
                    house = house.twin()
                    plain.entries = []
                self.check_same(house, plain)
        self.assertGreater(min(met[kind] for kind in (list, tuple, type(None))), 50)

    def test_as_many_deeds_as_may_stand(self):
        source = random.Random(19)
        hall = samples.BUSY
        house, plain = House(hall), Plain(hall)
        for step in range(60):
            # Trees of so many beats would be too large: here the house is held against itself made anew.
            house.call([person for person in range(8) if source.random() < 0.6])
        house.do([("late", 0, person) for person in range(8) if person not in house.history()[0]])
        anew = made(hall, house.history())
        mine, yours = state_of(house), state_of(anew)
        self.assertEqual(mine[:2] + mine[3:], yours[:2] + yours[3:])
        house.cut()
        self.assertIs(house.alike(anew), True)
        while house.undo():
            pass
        self.assertEqual(state_of(house), state_of(House(hall)))


class ByPlaceAndByName(unittest.TestCase):
    SIGNATURES = {
        "__init__": "(self, hall)", "call": "(self, persons)", "late": "(self, beat, person)",
        "strike": "(self, beat, person)", "cut": "(self)", "undo": "(self)", "do": "(self, deeds, *, whole=True)",
        "hall": "(self)", "history": "(self)", "deeds": "(self)", "version": "(self, person)",
        "hangs": "(self, person)", "least": "(self, *, watched=None)",
        "alike": "(self, other, *, watched=None)", "twin": "(self)", "log": "(self)",
    }

    def test_each_method_is_defined_in_the_class_itself(self):
        for name, right in self.SIGNATURES.items():
            self.assertEqual(str(inspect.signature(vars(House)[name])), right, name)
        for name in ("__len__", "__eq__", "__repr__"):
            self.assertIn(name, vars(House))

    def test_by_name(self):
        house = House(hall=HALL)
        self.assertEqual(house.call(persons=(0,)), [0])
        self.assertEqual(house.late(person=1, beat=0), [1])
        self.assertEqual(house.strike(person=1, beat=0), [1])
        self.assertEqual(house.do(deeds=[("cut",)], whole=False), [None])
        self.assertEqual(house.do(whole=True, deeds=(["call", [1]],)), [[1]])
        self.assertEqual(house.history(), [(0,), (1,)])


if __name__ == "__main__":
    unittest.main()
