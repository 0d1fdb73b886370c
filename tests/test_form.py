"""The interface as it is listed, and rules of the code's form that can be seen in its text."""

import ast
import unittest
from pathlib import Path

PACKAGE = Path(__file__).resolve().parent.parent / "turnsandthrows"

# The functions that the interface lists, and the names of their arguments.
INTERFACE = {
    "machines": {
        "make_machine": ["steps", "start", "good"],
        "letters_of": ["machine"],
        "lead": ["machine", "state", "word"],
        "accepts": ["machine", "word"],
        "words_upto": ["letters", "length"],
    },
    "least": {
        "least": ["machine"],
        "difference": ["first", "second"],
        "complement": ["machine"],
        "join": ["first", "second", "way"],
    },
    "lots": {
        "lead_lot": ["machine", "lot", "word"],
        "lots": ["machine"],
        "leading_word": ["machine", "first", "second"],
        "permutations_at": ["machine", "lot"],
    },
    "permutations": {
        "then": ["p", "q"],
        "back": ["p"],
        "generated": ["places", "permutations"],
        "order_of": ["p"],
        "prime_numbers": ["count"],
    },
    "groups": {
        "is_group": ["permutations"],
        "normal_part": ["group", "element"],
        "is_simple": ["group"],
        "factors": ["group"],
        "row_of_parts": ["group"],
    },
    "rings": {
        "is_ring": ["machine", "word", "states"],
        "find_ring": ["machine"],
        "ring_of": ["machine", "count"],
        "primes": ["machine"],
    },
}

LIBRARY = {
    "heapq": {"heappush", "heappop", "heapify", "heapreplace", "heappushpop"},
    "math": {"gcd", "lcm", "isqrt", "comb", "perm", "factorial"},
    "itertools": {"product", "combinations", "permutations", "chain", "accumulate", "pairwise", "islice",
                  "zip_longest"},
    "collections": {"defaultdict", "deque"},
}


def trees():
    """The name, the text and the tree of each file of the package."""
    for path in sorted(PACKAGE.rglob("*.py")):
        text = path.read_text(encoding="utf-8")
        yield path.stem, text, ast.parse(text)


class InterfaceTest(unittest.TestCase):
    def test_defined_in_their_files_with_their_arguments(self):
        for name, _, tree in trees():
            found = {node.name: node.args for node in tree.body if isinstance(node, ast.FunctionDef)}
            for function, arguments in INTERFACE.get(name, {}).items():
                with self.subTest(function):
                    self.assertEqual([each.arg for each in found[function].args], arguments)
                    self.assertEqual((found[function].defaults, found[function].kwonlyargs), ([], []))

    def test_all_files_are_there(self):
        self.assertLessEqual({"__init__", "errors", *INTERFACE}, {name for name, _, _ in trees()})


class FormTest(unittest.TestCase):
    def test_sizes_and_characters(self):
        for name, text, tree in trees():
            with self.subTest(name):
                lines = text.splitlines()
                self.assertLessEqual(len(lines), 399)
                self.assertLessEqual(max(map(len, lines), default=0), 120)
                self.assertTrue(all(sign == "\n" or " " <= sign <= "~" for sign in text))
                for node in ast.walk(tree):
                    if isinstance(node, ast.FunctionDef):
                        self.assertLessEqual(node.end_lineno - node.lineno + 1, 40, node.name)

    def test_imports(self):
        for name, _, tree in trees():
            for node in ast.walk(tree):
                with self.subTest(name, line=getattr(node, "lineno", 0)):
                    self.assertNotIsInstance(node, ast.Import)
                    if isinstance(node, ast.ImportFrom):
                        self.assertIn(node, tree.body)
                        names = {each.name for each in node.names}
                        if node.module in LIBRARY:
                            self.assertLessEqual(names, LIBRARY[node.module])
                        else:
                            self.assertEqual((node.level, node.module.split(".")[0]), (0, "turnsandthrows"))

    def test_what_is_not_used(self):
        barred = (ast.Div, ast.AsyncFunctionDef, ast.AsyncFor, ast.AsyncWith, ast.Await)
        for name, _, tree in trees():
            for node in ast.walk(tree):
                with self.subTest(name, line=getattr(node, "lineno", 0)):
                    self.assertNotIsInstance(node, barred)
                    self.assertFalse(isinstance(node, ast.Constant) and isinstance(node.value, (float, complex)))
            for node in tree.body:
                if isinstance(node, (ast.FunctionDef, ast.ClassDef)):
                    self.assertEqual(node.decorator_list, [], node.name)

    def test_nothing_else_in_the_folder(self):
        others = [path.name for path in PACKAGE.iterdir() if path.suffix != ".py" and path.name != "__pycache__"]
        self.assertEqual(others, [])
        self.assertEqual([path.name for path in PACKAGE.iterdir() if path.name.startswith("test")], [])


if __name__ == "__main__":
    unittest.main()
