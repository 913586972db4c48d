"""Each example of README.md tells what stands behind it, or in the line below."""

import pathlib
import re
import unittest

README = pathlib.Path(__file__).resolve().parent.parent / "README.md"


def examples():
    """The lines of code, each with what it tells, None where nothing is said of it."""
    for block in re.findall(r"```python\n(.*?)```", README.read_text(), re.S):
        lines = block.split("\n") + [""]
        for line, below in zip(lines, lines[1:]):
            if line.strip() and not line.startswith("#"):
                code, _, told = line.partition("    # ")
                yield code.strip(), told or (below[2:] if below.startswith("# ") else None)


class Examples(unittest.TestCase):
    def test_each(self):
        names, many = {}, 0
        for code, told in examples():
            with self.subTest(code=code):
                if told is None:
                    exec(code, names)
                elif not re.match("[a-z]+ = ", code):
                    many += 1
                    self.assertEqual(repr(eval(code, names)), repr(eval(told)))
                else:
                    many += 1
                    exec(code, names)
                    self.assertEqual(repr(names[code.split(" ")[0]]), repr(eval(told)))
        self.assertGreater(many, 50)
