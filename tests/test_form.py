"""The interface as it is listed, and rules of the code's form that can be seen in its text."""

import ast
import builtins
import unittest
from pathlib import Path

PACKAGE = Path(__file__).resolve().parent.parent / "turnsandthrows"

# The functions that the interface lists, and the names of their arguments.
INTERFACE = {
    "machines": {
        "make_machine": ["steps", "start", "good"],
        "letters_of": ["machine"],
        "lead": ["machine", "state", "word"],
        "accepts": ["machine", "word"],
        "words_upto": ["letters", "length"],
    },
    "least": {
        "least": ["machine"],
        "difference": ["first", "second"],
        "complement": ["machine"],
        "join": ["first", "second", "way"],
    },
    "lots": {
        "lead_lot": ["machine", "lot", "word"],
        "lots": ["machine"],
        "leading_word": ["machine", "first", "second"],
        "permutations_at": ["machine", "lot"],
    },
    "permutations": {
        "then": ["p", "q"],
        "back": ["p"],
        "generated": ["places", "permutations"],
        "order_of": ["p"],
        "prime_numbers": ["count"],
    },
    "groups": {
        "is_group": ["permutations"],
        "normal_part": ["group", "element"],
        "is_simple": ["group"],
        "factors": ["group"],
        "row_of_parts": ["group"],
    },
    "rings": {
        "is_ring": ["machine", "word", "states"],
        "find_ring": ["machine"],
        "ring_of": ["machine", "count"],
        "primes": ["machine"],
    },
    "cascade": {
        "Cascade.__init__": ["self", "widths", "acts", "shown"],
        "Cascade.step": ["self", "row", "letter"],
        "Cascade.run": ["self", "row", "word"],
        "Cascade.rows_of": ["self", "state"],
    },
    "judging": {
        "first_fault": ["machine", "cascade"],
        "turns": ["machine", "cascade", "level"],
        "group_sizes": ["machine", "cascade"],
    },
    "decomposing": {
        "decompose": ["machine"],
    },
    "pieces": {
        "piece_machine": ["acts"],
        "split": ["acts"],
        "is_prime": ["machine", "cascade"],
    },
    "lines": {
        "check_lines": ["lines"],
        "truths": ["lines", "word"],
        "holds": ["lines", "word"],
    },
    "telling": {
        "machine_of": ["lines", "count"],
        "lines_of": ["machine"],
    },
    "formulas": {
        "read_formula": ["text"],
        "write_formula": ["lines"],
    },
    "bench": {
        "Bench.__init__": ["self"],
        "Bench.add": ["self", "name", "machine"],
        "Bench.define": ["self", "name", "definition"],
        "Bench.remove": ["self", "name"],
        "Bench.names": ["self"],
        "Bench.entry": ["self", "name"],
        "Bench.users": ["self", "name"],
        "Bench.order": ["self"],
        "Bench.undo": ["self"],
        "Bench.redo": ["self"],
        "Bench.set_step": ["self", "name", "state", "letter", "target"],
        "Bench.set_start": ["self", "name", "state"],
        "Bench.set_good": ["self", "name", "state", "good"],
        "Bench.add_state": ["self", "name"],
        "Bench.drop_state": ["self", "name", "state"],
        "Bench.add_letter": ["self", "name"],
        "Bench.drop_letter": ["self", "name"],
    },
    "answers": {
        "machine_at": ["bench", "name"],
        "accepts_at": ["bench", "name", "word"],
        "difference_at": ["bench", "first", "second"],
        "ring_at": ["bench", "name"],
        "primes_at": ["bench", "name"],
        "cascade_at": ["bench", "name"],
        "sentence_at": ["bench", "name"],
    },
    "monoid": {
        "transformations": ["machine"],
        "settling": ["machine"],
    },
    "resetting": {
        "merging_word": ["machine", "first", "second"],
        "apart": ["machine"],
        "resetting_word": ["machine"],
        "rank": ["machine"],
    },
    "congruences": {
        "is_congruence": ["machine", "partition"],
        "least_congruence": ["machine", "first", "second"],
        "congruences": ["machine"],
        "meet_of": ["p", "q"],
        "join_of": ["p", "q"],
        "quotient": ["machine", "partition"],
        "parting": ["machine"],
        "bound_pair": ["machine"],
    },
    "sides": {
        "side_by_side": ["machine", "p", "first", "q", "second"],
    },
    "texts": {
        "write_machine": ["machine"],
        "read_machine": ["text"],
        "write_bench": ["bench"],
        "read_bench": ["texts"],
    },
    "records": {
        "write_cascade": ["cascade"],
        "read_cascade": ["text"],
    },
}

LIBRARY = {
    "heapq": {"heappush", "heappop", "heapify", "heapreplace", "heappushpop"},
    "math": {"gcd", "lcm", "isqrt", "comb", "perm", "factorial"},
    "itertools": {"product", "combinations", "permutations", "chain", "accumulate", "pairwise", "islice",
                  "zip_longest"},
    "collections": {"defaultdict", "deque"},
}


def trees():
    """The name, the text and the tree of each file of the package."""
    for path in sorted(PACKAGE.rglob("*.py")):
        text = path.read_text(encoding="utf-8")
        yield path.stem, text, ast.parse(text)


def defined(body, prefix=""):
    """The functions of a file, and the methods of its classes, with their arguments."""
    for node in body:
        if isinstance(node, ast.FunctionDef):
            yield prefix + node.name, node.args
        elif isinstance(node, ast.ClassDef):
            yield from defined(node.body, node.name + ".")


def bound_at_top(tree):
    """The names that the file binds, and those of them that are imports or classes."""
    names, reserved = [], []
    for node in tree.body:
        if isinstance(node, ast.ImportFrom):
            reserved.extend(each.name for each in node.names)
        elif isinstance(node, ast.ClassDef):
            reserved.append(node.name)
        elif isinstance(node, ast.FunctionDef):
            names.append(node.name)
        elif isinstance(node, ast.Assign):
            names.extend(target.id for target in node.targets)
    return names + reserved, reserved


def bound_inside(tree):
    """The parameters and local variables of the functions of the file."""
    arguments = {node.arg for node in ast.walk(tree) if isinstance(node, ast.arg)}
    inside = set()
    for function in ast.walk(tree):
        if isinstance(function, ast.FunctionDef):
            names = [node for node in ast.walk(function) if isinstance(node, ast.Name)]
            inside |= {name.id for name in names if isinstance(name.ctx, ast.Store)}
    return arguments | inside


def own_methods():
    """The names of the methods of the package's classes."""
    return {each.split(".")[1] for _, _, tree in trees() for each, _ in defined(tree.body) if "." in each}


class InterfaceTest(unittest.TestCase):
    def test_defined_in_their_files_with_their_arguments(self):
        for name, _, tree in trees():
            found = dict(defined(tree.body))
            for function, arguments in INTERFACE.get(name, {}).items():
                with self.subTest(function):
                    self.assertEqual([each.arg for each in found[function].args], arguments)
                    self.assertEqual((found[function].defaults, found[function].kwonlyargs), ([], []))

    def test_all_files_are_there(self):
        self.assertLessEqual({"__init__", "errors", *INTERFACE}, {name for name, _, _ in trees()})


# What L8, L17 and L25 let be used, or bar, by name.
BUILTINS = set("""len range enumerate zip min max sum abs sorted reversed int str bool bytes list tuple dict set
frozenset isinstance ord repr any all divmod pow map super ValueError""".split())
METHODS = set("""append clear copy count endswith extend find get index insert isalnum isalpha isdigit islower isspace
isupper items join keys ljust lower lstrip partition pop remove replace reverse rfind rjust rpartition rsplit rstrip
setdefault split splitlines startswith strip update upper values zfill bit_length add discard sort""".split())
BARRED = set("""register mro elements open input law version_info with_traceback add_note type typing enum Enum Flag
Generic Protocol ABC namedtuple NamedTuple TypedDict abstractmethod dataclass overload contextmanager""".split())


class FormTest(unittest.TestCase):
    def test_sizes_and_characters(self):
        for name, text, tree in trees():
            with self.subTest(name):
                lines = text.splitlines()
                self.assertLessEqual(len(lines), 399)
                self.assertLessEqual(max(map(len, lines), default=0), 120)
                self.assertTrue(all(sign == "\n" or " " <= sign <= "~" for sign in text))
                for node in ast.walk(tree):
                    if isinstance(node, ast.FunctionDef):
                        self.assertLessEqual(node.end_lineno - node.lineno + 1, 40, node.name)

    def test_imports(self):
        for name, _, tree in trees():
            for node in ast.walk(tree):
                with self.subTest(name, line=getattr(node, "lineno", 0)):
                    self.assertNotIsInstance(node, ast.Import)
                    if isinstance(node, ast.ImportFrom):
                        self.assertIn(node, tree.body)
                        names = {each.name for each in node.names}
                        if node.module in LIBRARY:
                            self.assertLessEqual(names, LIBRARY[node.module])
                        else:
                            self.assertEqual((node.level, node.module.split(".")[0]), (0, "turnsandthrows"))

    def test_what_is_not_used(self):
        barred = (ast.Div, ast.AsyncFunctionDef, ast.AsyncFor, ast.AsyncWith, ast.Await)
        for name, _, tree in trees():
            for node in ast.walk(tree):
                with self.subTest(name, line=getattr(node, "lineno", 0)):
                    self.assertNotIsInstance(node, barred)
                    self.assertFalse(isinstance(node, ast.Constant) and isinstance(node.value, (float, complex)))
            for node in tree.body:
                if isinstance(node, (ast.FunctionDef, ast.ClassDef)):
                    self.assertEqual(node.decorator_list, [], node.name)

    def test_names(self):
        for name, _, tree in trees():
            with self.subTest(name):
                bound, reserved = bound_at_top(tree)
                inside = bound_inside(tree)
                self.assertEqual(sorted(bound), sorted(set(bound)))
                self.assertEqual(inside & set(reserved), set())
                self.assertEqual((inside | set(bound)) & set(dir(builtins)), set())
                used = {node.id for node in ast.walk(tree) if isinstance(node, ast.Name)}
                self.assertLessEqual(used & set(dir(builtins)), BUILTINS)
                attributes = {node.attr for node in ast.walk(tree) if isinstance(node, ast.Attribute)}
                self.assertEqual((used | inside | set(bound) | attributes) & BARRED, set())

    def test_methods(self):
        own = own_methods()
        self.assertEqual({each for each in own if hasattr(str, each) or hasattr(list, each) or hasattr(dict, each)},
                         {"__init__", "remove"})
        for name, _, tree in trees():
            calls = [node.func for node in ast.walk(tree) if isinstance(node, ast.Call)]
            with self.subTest(name):
                self.assertLessEqual({call.attr for call in calls if isinstance(call, ast.Attribute)}, METHODS | own)

    def test_methods_are_called_where_they_stand(self):
        # L25: no method, an own one or one of a builtin value, is handed on, kept or returned.
        methods = METHODS | own_methods()
        for name, _, tree in trees():
            called = [node.func for node in ast.walk(tree) if isinstance(node, ast.Call)]
            for node in ast.walk(tree):
                if isinstance(node, ast.Attribute) and node.attr in methods:
                    with self.subTest(name, line=node.lineno, method=node.attr):
                        self.assertTrue(any(node is call for call in called))

    def test_attributes(self):
        # L18: what is read is assigned somewhere, and no name is both a method and an attribute.
        methods = METHODS | own_methods()
        nodes = [node for _, _, tree in trees() for node in ast.walk(tree) if isinstance(node, ast.Attribute)]
        stored = {node.attr for node in nodes if isinstance(node.ctx, ast.Store)}
        self.assertEqual(stored & methods, set())
        self.assertLessEqual({node.attr for node in nodes} - methods, stored)

    def test_nothing_is_added_to_a_kept_set(self):
        # L24: that is barred where a class has a method called so.
        self.assertIn("add", own_methods())
        for name, _, tree in trees():
            kept = set()
            for node in ast.walk(tree):
                if isinstance(node, ast.Assign):
                    is_call = isinstance(node.value, ast.Call) and getattr(node.value.func, "id", "") == "set"
                    if is_call or isinstance(node.value, (ast.Set, ast.SetComp)):
                        kept |= {target.id for target in node.targets}
            for node in ast.walk(tree):
                if isinstance(node, ast.Attribute) and node.attr in ("add", "discard"):
                    with self.subTest(name, line=node.lineno):
                        self.assertNotIn(node.value.id, kept)

    def test_imports_name_the_file_that_defines(self):
        files = {name: tree for name, _, tree in trees()}
        before = {}
        for name, tree in files.items():
            before[name] = set()
            for node in tree.body:
                if isinstance(node, ast.ImportFrom) and node.module not in LIBRARY:
                    other = node.module.split(".")[1]
                    before[name].add(other)
                    own, foreign = bound_at_top(files[other])
                    classes = {each.name for each in files[other].body if isinstance(each, ast.ClassDef)}
                    self.assertLessEqual({each.name for each in node.names}, set(own) - set(foreign) | classes)
        # No two files import from each other: again and again one is left that imports from none of the rest.
        while before:
            free = [name for name in before if not before[name] & set(before)]
            self.assertNotEqual(free, [])
            del before[free[0]]

    def test_sets_and_stars(self):
        for name, _, tree in trees():
            for node in ast.walk(tree):
                with self.subTest(name, line=getattr(node, "lineno", 0)):
                    # L24: a set is not iterated; L7: no star in an index or a set.
                    sources = [each.iter for each in getattr(node, "generators", ())]
                    if isinstance(node, ast.For):
                        sources.append(node.iter)
                    for source in sources:
                        self.assertNotIsInstance(source, (ast.Set, ast.SetComp))
                        self.assertNotEqual(getattr(getattr(source, "func", None), "id", ""), "set")
                    if isinstance(node, (ast.Subscript, ast.Set)):
                        inner = node.slice if isinstance(node, ast.Subscript) else node
                        self.assertFalse(any(isinstance(each, ast.Starred) for each in ast.walk(inner)))
                    self.assertNotIsInstance(node, (ast.GeneratorExp, ast.Global, ast.Yield))

    def test_nothing_else_in_the_folder(self):
        others = [path.name for path in PACKAGE.iterdir() if path.suffix != ".py" and path.name != "__pycache__"]
        self.assertEqual(others, [])
        self.assertEqual([path.name for path in PACKAGE.iterdir() if path.name.startswith("test")], [])


if __name__ == "__main__":
    unittest.main()
