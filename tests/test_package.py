"""What the interface and the rules of the language say of the files themselves."""

import ast
import pathlib
import unittest

ROOT = pathlib.Path(__file__).resolve().parent.parent
PACKAGE = ROOT / "gatewright"
LISTED = {
    "errors.py": ["GateError", "BadText", "BadSet", "BadValue", "BadAsking", "NoGate", "NoRule", "TooMuch", "BadWish",
                  "NoName", "Ring", "NoVersion", "InUse"],
    "sets.py": ["need_set", "set_of", "joined", "cut", "less", "turned", "has", "size", "least", "parts"],
    "fields.py": ["field_of", "Field"],
    "atoms.py": ["atom_of", "Atom", "condition_set"],
    "folk.py": ["Folk"],
    "house.py": ["house_of", "House"],
    "reading.py": ["read", "gate_read"],
    "showing.py": ["shown", "gate_shown"],
    "walking.py": ["asked", "answered", "flat"],
    "tables.py": ["Table", "made"],
    "tablework.py": ["combined", "changed", "fixed", "leaves", "first_with", "many_with"],
    "gates.py": ["word_table", "way_table", "pair_table", "differs", "many_differ", "counted", "woven"],
    "needs.py": ["need_shown", "meeting", "lean"],
    "reasons.py": ["unlike", "reason"],
    "changes.py": ["change"],
    "book.py": ["Book"],
    "desk.py": ["answer", "play"],
}


def files():
    return sorted(path for path in PACKAGE.rglob("*") if "__pycache__" not in path.parts)


class Files(unittest.TestCase):
    def test_only_python_files(self):
        self.assertIn(PACKAGE / "__init__.py", files())
        for path in files():
            self.assertTrue(path.is_dir() or path.suffix == ".py", path)

    def test_listed_names_are_defined_in_their_files(self):
        for name, listed in LISTED.items():
            tree = ast.parse((PACKAGE / name).read_text())
            defined = [node.name for node in tree.body if isinstance(node, (ast.FunctionDef, ast.ClassDef))]
            for one in listed:
                with self.subTest(file=name, name=one):
                    self.assertIn(one, defined)

    def test_sizes_and_signs(self):
        for path in files():
            if path.suffix != ".py":
                continue
            text = path.read_bytes().decode("ascii")
            lines = text.split("\n")
            self.assertLessEqual(len(lines) - 1, 399, path)
            self.assertLessEqual(max(len(line) for line in lines), 120, path)
            self.assertEqual([sign for sign in text if sign != "\n" and not " " <= sign <= "~"], [], path)
            for node in ast.walk(ast.parse(text)):
                if isinstance(node, ast.FunctionDef):
                    self.assertLessEqual(node.end_lineno - node.lineno + 1, 40, node.name)

    def test_imports(self):
        free = ("gatewright", "heapq", "math", "itertools", "collections")
        for path in files():
            if path.suffix != ".py":
                continue
            for node in ast.walk(ast.parse(path.read_text())):
                self.assertNotIsInstance(node, ast.Import, path)
                if isinstance(node, ast.ImportFrom):
                    self.assertEqual(node.level, 0, path)
                    self.assertIn(node.module.split(".")[0], free, path)
