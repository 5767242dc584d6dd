"""README.md: what its examples tell is what the program tells."""

import pathlib
import re
import unittest

README = pathlib.Path(__file__).resolve().parent.parent / "README.md"
EXAMPLE = re.compile(r"(\S.*?) +# (.+)")


class Readme(unittest.TestCase):
    def test_examples(self):
        names = {}
        checked = 0
        for block in re.findall(r"```python\n(.*?)```", README.read_text(), re.DOTALL):
            if "try:" in block:
                continue
            for row in block.splitlines():
                example = EXAMPLE.fullmatch(row)
                if example is None:
                    exec(row, names)
                    continue
                asked, right = example.groups()
                name, sign, rest = asked.partition(" = ")
                if sign and name.isidentifier():
                    exec(asked, names)
                    asked = name
                self.assertEqual(repr(eval(asked, names)), repr(eval(right, {})), asked)
                checked += 1
        self.assertGreater(checked, 20)


if __name__ == "__main__":
    unittest.main()
