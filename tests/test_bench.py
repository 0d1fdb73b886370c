"""Points 2, 29 and 31, and the interface of bench.py."""

import unittest
from random import Random

from turnsandthrows.bench import Bench
from turnsandthrows.errors import (
    CircularDefinition,
    DuplicateName,
    InvalidEdit,
    InvalidName,
    NameInUse,
    NotOwn,
    SyntaxFault,
    UnknownName,
)

from tests.benches import (
    BARE,
    EVEN,
    SlowBench,
    all_orders,
    edited,
    many_names,
    outcome,
    random_call,
    slow_call,
    state_of,
)
from tests.tools import random_machines, wheel_machine

OWN_EDITS = (
    ("set_step", (0, "a", 0)),
    ("set_start", (0,)),
    ("set_good", (0, True)),
    ("add_state", ()),
    ("drop_state", (1,)),
    ("add_letter", ()),
    ("drop_letter", ()),
)


def filled():
    """A bench with machines and definitions, something to undo and something to do again."""
    bench = Bench()
    bench.add("even", EVEN)
    bench.add("bare", BARE)
    bench.define("odd", ("not", "even"))
    bench.define("all", ("either", "even", "odd"))
    bench.define("told", ("formula", "b since a", 2))
    bench.add("gone", EVEN)
    bench.undo()
    return bench


class BenchCase(unittest.TestCase):
    def refuse(self, error, bench, word, *arguments):
        """The call must raise the error and change nothing, also not what can be undone and done again.

        The last is looked at where the bench is a filled one.
        """
        other = filled()
        before = state_of(bench)
        with self.subTest(word, arguments=arguments):
            with self.assertRaises(error) as caught:
                getattr(bench, word)(*arguments)
            self.assertIs(type(caught.exception), error)
            self.assertEqual(state_of(bench), before)
            if before == state_of(other):
                while other.redo():
                    self.assertIs(bench.redo(), True)
                self.assertIs(bench.redo(), False)
                while other.undo():
                    self.assertIs(bench.undo(), True)
                    self.assertEqual(state_of(bench), state_of(other))
                self.assertIs(bench.undo(), False)
            return caught.exception


class BenchTest(BenchCase):
    def test_a_new_bench(self):
        bench = Bench()
        self.assertEqual((bench.made, bench.names(), bench.order()), (0, [], []))
        self.assertIs(bench.undo(), False)
        self.assertIs(bench.redo(), False)
        self.assertEqual((bench.made, bench.names()), (0, []))

    def test_calls_return_none(self):
        bench = Bench()
        self.assertIsNone(bench.add("x", EVEN))
        self.assertIsNone(bench.define("y", ("not", "x")))
        self.assertIsNone(bench.remove("y"))
        for word, arguments in OWN_EDITS:
            if word != "add_state":
                self.assertIsNone(getattr(bench, word)("x", *arguments), word)
        self.assertEqual(bench.made, 0)

    def test_names(self):
        bench = Bench()
        good = ["a", "z", "not", "formula", "abcdefghijkl", "zzzzzzzzzzzz"]
        for name in good:
            bench.add(name, EVEN)
        self.assertEqual(bench.names(), sorted(good))
        for name in ("", "abcdefghijklm", "A", "aB", "a1", "1", "a b", " a", "a ", "a-b", "a_b", "{", "`", "a\n", "=", "(",
                     "\u00e4", "\u03b1"):
            self.refuse(InvalidName, filled(), "add", name, EVEN)
            self.refuse(InvalidName, filled(), "define", name, ("not", "even"))

    def test_add(self):
        bench = filled()
        self.assertEqual(bench.entry("even"), EVEN)
        self.assertEqual(bench.entry("bare"), BARE)
        self.refuse(DuplicateName, filled(), "add", "even", EVEN)
        self.refuse(DuplicateName, filled(), "add", "even", BARE)
        self.refuse(DuplicateName, filled(), "add", "odd", EVEN)
        self.refuse(DuplicateName, filled(), "add", "told", EVEN)

    def test_define(self):
        bench = filled()
        for name, definition in (("one", ("one", "even", "odd")), ("both", ("both", "even", "even")),
                                 ("either", ("either", "one", "both")), ("not", ("not", "either")),
                                 ("formula", ("formula", " ( a ) ", 4)), ("a", ("formula", "a", 1))):
            bench.define(name, definition)
            self.assertEqual(bench.entry(name), definition)
        self.assertEqual(bench.users("a"), [])

    def test_define_in_place_of_another_definition(self):
        bench = filled()
        bench.define("odd", ("formula", "a", 2))
        self.assertEqual(bench.entry("odd"), ("formula", "a", 2))
        self.assertEqual((bench.users("even"), bench.users("odd")), (["all"], ["all"]))
        bench.define("told", ("not", "all"))
        self.assertEqual(bench.users("all"), ["told"])
        bench.define("told", ("not", "all"))
        self.assertIs(bench.undo(), True)
        self.assertEqual(bench.entry("told"), ("not", "all"))
        self.assertIs(bench.undo(), True)
        self.assertEqual(bench.entry("told"), ("formula", "b since a", 2))
        self.assertIs(bench.undo(), True)
        self.assertEqual(bench.entry("odd"), ("not", "even"))

    def test_define_refused(self):
        self.refuse(DuplicateName, filled(), "define", "even", ("not", "bare"))
        self.refuse(DuplicateName, filled(), "define", "even", ("formula", "a", 1))
        for definition in (("not", "gone"), ("both", "even", "gone"), ("either", "gone", "even"), ("one", "gone", "gone"),
                           ("not", ""), ("not", "Even"), ("both", "even", " "), ("not", "x" * 13)):
            self.refuse(UnknownName, filled(), "define", "new", definition)
            self.refuse(UnknownName, filled(), "define", "odd", definition)
        self.refuse(UnknownName, filled(), "define", "new", ("not", "new"))
        self.refuse(UnknownName, filled(), "define", "new", ("both", "even", "new"))

    def test_define_circular(self):
        for definition in (("not", "odd"), ("not", "all"), ("both", "even", "all"), ("one", "odd", "even"),
                           ("either", "odd", "odd")):
            self.refuse(CircularDefinition, filled(), "define", "odd", definition)
        bench = filled()
        bench.define("far", ("not", "all"))
        bench.define("farther", ("one", "told", "far"))
        self.refuse(CircularDefinition, bench, "define", "odd", ("both", "even", "farther"))
        self.refuse(CircularDefinition, bench, "define", "told", ("not", "farther"))
        self.refuse(CircularDefinition, bench, "define", "far", ("not", "farther"))
        # What the definition had said before does not count.
        bench.define("odd", ("not", "told"))
        bench.define("far", ("not", "even"))
        self.refuse(CircularDefinition, bench, "define", "told", ("not", "odd"))
        bench.define("odd", ("not", "far"))
        bench.define("told", ("not", "odd"))
        self.assertEqual(bench.order(), ["bare", "even", "far", "odd", "all", "told", "farther"])

    def test_define_formula_refused(self):
        for text, column in (("", 1), ("a and or b", 7), ("a b", 3), ("a +", 3), ("e", 1), ("not", 4),
                             ("( " * 13 + "a", 25)):
            for count in (1, 0, 5):
                error = self.refuse(SyntaxFault, filled(), "define", "new", ("formula", text, count))
                self.assertEqual(error.column, column)
                self.refuse(SyntaxFault, filled(), "define", "told", ("formula", text, count))
        for count in (0, 5, -1, 40, 10 ** 20, 10 ** 5000):
            self.refuse(InvalidEdit, filled(), "define", "new", ("formula", "a", count))

    def test_order_of_the_errors_of_define(self):
        self.refuse(InvalidName, filled(), "define", "Even", ("formula", "a +", 9))
        self.refuse(InvalidName, filled(), "define", "", ("not", "gone"))
        self.refuse(DuplicateName, filled(), "define", "even", ("formula", "a +", 9))
        self.refuse(DuplicateName, filled(), "define", "even", ("both", "gone", "even"))
        self.refuse(SyntaxFault, filled(), "define", "odd", ("formula", "a +", 9))
        self.refuse(UnknownName, filled(), "define", "odd", ("both", "odd", "gone"))
        self.refuse(UnknownName, filled(), "define", "odd", ("both", "gone", "all"))
        self.refuse(InvalidName, filled(), "add", "eVen", EVEN)

    def test_remove(self):
        bench = filled()
        for name in ("even", "odd"):
            self.refuse(NameInUse, filled(), "remove", name)
        for name in ("gone", "new", "", "Even"):
            self.refuse(UnknownName, filled(), "remove", name)
        for name in ("all", "odd", "told", "even"):
            bench.remove(name)
        self.assertEqual(bench.names(), ["bare"])
        self.refuse(UnknownName, bench, "remove", "even")
        bench.define("even", ("not", "bare"))
        self.assertEqual(bench.entry("even"), ("not", "bare"))

    def test_unknown_names(self):
        for word in ("entry", "users", "remove"):
            for name in ("gone", "", "EVEN"):
                self.refuse(UnknownName, filled(), word, name)

    def test_lists_belong_to_the_caller(self):
        bench = filled()
        for call in (bench.names, bench.order, lambda: bench.users("even")):
            told = call()
            self.assertIsInstance(told, list)
            call().clear()
            call().append("x")
            self.assertEqual(call(), told)
        definition = ("both", "even", "odd")
        bench.define("new", definition)
        self.assertEqual(definition, ("both", "even", "odd"))

    def test_users(self):
        bench = filled()
        self.assertEqual(bench.users("even"), ["all", "odd"])
        self.assertEqual(bench.users("odd"), ["all"])
        self.assertEqual(bench.users("all"), [])
        bench.define("a", ("both", "odd", "odd"))
        self.assertEqual(bench.users("odd"), ["a", "all"])
        # A formula speaks of no name, whatever its words are.
        bench.add("start", EVEN)
        bench.define("x", ("formula", "start or a", 1))
        self.assertEqual((bench.users("start"), bench.users("a")), ([], []))
        # The word of a definition is none of its names.
        bench.add("not", EVEN)
        bench.define("y", ("not", "even"))
        self.assertEqual(bench.users("not"), [])

    def test_order(self):
        bench = Bench()
        bench.add("m", EVEN)
        bench.define("a", ("not", "m"))
        bench.define("c", ("both", "a", "m"))
        bench.add("z", EVEN)
        bench.define("b", ("one", "z", "c"))
        bench.define("d", ("formula", "a", 1))
        self.assertEqual(bench.order(), ["d", "m", "a", "c", "z", "b"])
        bench.define("d", ("not", "b"))
        self.assertEqual(bench.order(), ["m", "a", "c", "z", "b", "d"])

    def test_many_names(self):
        bench = Bench()
        names = many_names()
        bench.add(names[-1], EVEN)
        for at in range(58, -1, -1):
            bench.define(names[at], ("not", names[at + 1]))
        self.assertEqual(bench.names(), names)
        self.assertEqual(bench.order(), names[::-1])
        self.refuse(CircularDefinition, bench, "define", names[58], ("not", names[0]))

    def test_many_ways_to_hang_on_a_name(self):
        # There are more ways from the last name to the first one than can be gone one by one.
        bench = Bench()
        names = many_names()
        bench.add(names[0], EVEN)
        bench.define(names[1], ("not", names[0]))
        for at in range(2, 60):
            bench.define(names[at], ("both", names[at - 1], names[at - 2]))
        self.refuse(CircularDefinition, bench, "define", names[1], ("one", names[59], names[0]))
        bench.set_start(names[0], 1)
        self.assertEqual(bench.users(names[0]), names[1:3])
        self.assertEqual(bench.order(), names)


class OwnEditsTest(BenchCase):
    def test_unknown_and_defined_names(self):
        for word, arguments in OWN_EDITS:
            wrong = {"set_step": (9, "d", -1), "set_start": (9,), "set_good": (-1, True), "drop_state": (9,)}
            for each in (arguments, wrong.get(word, arguments)):
                for name, error in (("gone", UnknownName), ("Even", UnknownName), ("odd", NotOwn), ("told", NotOwn)):
                    self.refuse(error, filled(), word, name, *each)

    def test_invalid_edits(self):
        for wrong in (-1, 2, 40, -3, 10 ** 5000):
            self.refuse(InvalidEdit, filled(), "set_step", "even", wrong, "a", 0)
            self.refuse(InvalidEdit, filled(), "set_step", "even", 0, "a", wrong)
            self.refuse(InvalidEdit, filled(), "set_start", "even", wrong)
            self.refuse(InvalidEdit, filled(), "set_good", "even", wrong, True)
            self.refuse(InvalidEdit, filled(), "set_good", "even", wrong, False)
            self.refuse(InvalidEdit, filled(), "drop_state", "even", wrong)
        self.refuse(InvalidEdit, filled(), "set_step", "even", 0, "c", 0)
        self.refuse(InvalidEdit, filled(), "set_step", "bare", 0, "b", 0)
        self.refuse(InvalidEdit, filled(), "drop_state", "even", 0)
        self.refuse(InvalidEdit, filled(), "drop_state", "bare", 0)
        self.refuse(InvalidEdit, filled(), "drop_letter", "bare")

    def test_the_bounds(self):
        bench = Bench()
        bench.add("x", wheel_machine(39))
        self.assertEqual(bench.add_state("x"), 39)
        self.assertEqual(bench.entry("x"), ((*wheel_machine(39)[0], (39,)), 0, (0,)))
        self.refuse(InvalidEdit, bench, "add_state", "x")
        for letters in (2, 3, 4):
            bench.add_letter("x")
            self.assertEqual([len(row) for row in bench.entry("x")[0]], [letters] * 40)
        self.refuse(InvalidEdit, bench, "add_letter", "x")
        self.assertEqual(bench.entry("x")[0][38], (0, 38, 38, 38))
        bench.drop_state("x", 39)
        for _ in range(3):
            bench.drop_letter("x")
        self.assertEqual(bench.entry("x"), wheel_machine(39))
        self.refuse(InvalidEdit, bench, "drop_letter", "x")

    def test_set(self):
        bench = filled()
        bench.set_step("even", 1, "b", 0)
        self.assertEqual(bench.entry("even"), (((1, 0), (0, 0)), 0, (0,)))
        bench.set_start("even", 1)
        self.assertEqual(bench.entry("even"), (((1, 0), (0, 0)), 1, (0,)))
        for state, good, told in ((1, True, (0, 1)), (1, True, (0, 1)), (0, False, (1,)), (0, False, (1,)), (0, True, (0, 1)),
                                  (0, False, (1,)), (1, False, ())):
            bench.set_good("even", state, good)
            self.assertEqual(bench.entry("even"), (((1, 0), (0, 0)), 1, told))
        self.assertEqual(EVEN, (((1, 0), (0, 1)), 0, (0,)))

    def test_drop_state(self):
        machine = (((1, 2), (2, 3), (3, 0), (2, 1)), 2, (0, 1, 3))
        for state, told in ((0, (((1, 2), (2, 1), (1, 0)), 1, (0, 2))), (1, (((1, 1), (2, 0), (1, 1)), 1, (0, 2))),
                            (3, (((1, 2), (2, 2), (2, 0)), 2, (0, 1)))):
            bench = Bench()
            bench.add("x", machine)
            bench.drop_state("x", state)
            self.assertEqual(bench.entry("x"), told)

    def test_all_edits_of_many_machines(self):
        random = Random(71)
        for machine in random_machines(72, 150, 5, 4):
            for word, _ in OWN_EDITS:
                state, target = random.randint(-1, 5), random.randint(-1, 5)
                arguments = {"set_step": (state, random.choice("abcd"), target), "set_start": (state,),
                             "set_good": (state, target > 2), "drop_state": (state,)}.get(word, ())
                bench = Bench()
                bench.add("x", machine)
                told = outcome(edited, machine, word, *arguments)
                with self.subTest(word, machine=machine, arguments=arguments):
                    if told[0] is InvalidEdit:
                        self.refuse(InvalidEdit, bench, word, "x", *arguments)
                        self.assertEqual(bench.entry("x"), machine)
                    else:
                        self.assertEqual(getattr(bench, word)("x", *arguments),
                                         len(machine[0]) if word == "add_state" else None)
                        self.assertEqual(bench.entry("x"), told)
                        self.assertIs(bench.undo(), True)
                        self.assertEqual(bench.entry("x"), machine)
                        self.assertIs(bench.redo(), True)
                        self.assertEqual(bench.entry("x"), told)


class UndoTest(unittest.TestCase):
    def calls(self):
        """Calls that make each kind of edit, one after another."""
        return [
            ("add", "x", (((1, 0), (0, 1)), 0, (0,))),
            ("define", "y", ("not", "x")),
            ("define", "y", ("both", "x", "x")),
            ("define", "z", ("formula", "a", 2)),
            ("set_step", "x", 1, "b", 0),
            ("set_start", "x", 1),
            ("set_good", "x", 1, True),
            ("add_state", "x"),
            ("add_letter", "x"),
            ("drop_state", "x", 0),
            ("drop_letter", "x"),
            ("set_start", "x", 0),
            ("define", "y", ("not", "z")),
            ("remove", "x"),
            ("remove", "y"),
            ("add", "y", EVEN),
        ]

    def test_down_and_up(self):
        bench = Bench()
        states = [state_of(bench)]
        for word, *arguments in self.calls():
            getattr(bench, word)(*arguments)
            states.append(state_of(bench))
        for _ in range(2):
            self.assertIs(bench.redo(), False)
            for state in states[-2::-1]:
                self.assertIs(bench.undo(), True)
                self.assertEqual(state_of(bench), state)
            self.assertIs(bench.undo(), False)
            self.assertEqual(state_of(bench), states[0])
            for state in states[1:]:
                self.assertIs(bench.redo(), True)
                self.assertEqual(state_of(bench), state)
        self.assertIs(bench.redo(), False)
        self.assertEqual((state_of(bench), bench.made), (states[-1], 0))

    def test_each_edit_ends_what_can_be_done_again(self):
        calls = self.calls()
        for count in range(len(calls)):
            bench = Bench()
            for word, *arguments in calls[:count + 1]:
                getattr(bench, word)(*arguments)
            bench.undo()
            before = state_of(bench)
            word, *arguments = calls[count]
            getattr(bench, word)(*arguments)
            self.assertIs(bench.redo(), False)
            self.assertIs(bench.undo(), True)
            self.assertEqual(state_of(bench), before)
            self.assertIs(bench.redo(), True)
            self.assertIs(bench.redo(), False)

    def test_an_edit_that_changes_nothing_is_one(self):
        bench = Bench()
        bench.add("x", EVEN)
        bench.add("y", EVEN)
        bench.undo()
        bench.set_start("x", 0)
        self.assertIs(bench.redo(), False)
        self.assertIs(bench.undo(), True)
        self.assertEqual(bench.names(), ["x"])
        self.assertIs(bench.undo(), True)
        self.assertEqual(bench.names(), [])

    def test_questions_are_no_edits(self):
        bench = filled()
        state_of(bench)
        outcome(bench.entry, "gone")
        self.assertIs(bench.redo(), True)
        self.assertEqual(bench.names(), ["all", "bare", "even", "gone", "odd", "told"])

    def test_benches_know_nothing_of_each_other(self):
        first, second = Bench(), Bench()
        first.add("x", EVEN)
        self.assertEqual(second.names(), [])
        self.assertIs(second.undo(), False)


class RandomCallsTest(unittest.TestCase):
    def test_against_the_slow_bench(self):
        for seed in range(40):
            random = Random(seed)
            names = ["b", "not", "aa", "c", "formula"][:random.randint(1, 5)]
            bench, slow = Bench(), SlowBench()
            for _ in range(60):
                word, arguments = random_call(random, names)
                with self.subTest(seed, word=word, arguments=arguments):
                    told = outcome(getattr(bench, word), *arguments)
                    self.assertEqual(told, outcome(slow_call, slow, word, arguments))
                    entries = slow.entries()
                    self.assertEqual(bench.names(), sorted(entries))
                    self.assertEqual({name: bench.entry(name) for name in entries}, entries)
            self.assertEqual(bench.order(), min(all_orders(entries)))
            for name in entries:
                users = [other for other in entries if name in entries[other][1:] and entries[other][0] != "formula"]
                self.assertEqual(bench.users(name), sorted(users))
            self.assertEqual(bench.made, 0)


if __name__ == "__main__":
    unittest.main()
