"""Points 40 to 43, and the interface of texts.py."""

import re
import unittest
from itertools import product
from random import Random

from turnsandthrows.answers import machine_at
from turnsandthrows.bench import Bench
from turnsandthrows.errors import (
    CircularDefinition,
    DuplicateName,
    InvalidEdit,
    InvalidMachine,
    InvalidName,
    SyntaxFault,
    UnknownName,
)
from turnsandthrows.formulas import read_formula
from turnsandthrows.machines import make_machine
from turnsandthrows.texts import read_bench, read_machine, write_bench, write_machine

from tests.benches import EVEN, many_names, outcome, random_call, state_of
from tests.tools import every_machine, random_machines, wheel_machine

NUMBER = "(0|[1-9][0-9]?)"
NUMBERS = f"{NUMBER}( {NUMBER})*"
MACHINE = re.compile(f"{NUMBERS}(/{NUMBERS})*;{NUMBER};({NUMBERS})?")

# What may follow where a text of a machine may go on, from each place in it.
ENDS = ("", "0", ";", "0;", ";0;", "0;0;")


def slow_fault(text):
    """The column of the fault of a text of a machine, or None."""
    if MACHINE.fullmatch(text):
        return None
    for end in range(1, len(text) + 1):
        if not any(MACHINE.fullmatch(text[:end] + rest) for rest in ENDS):
            return end
    return len(text) + 1


def slow_entry_fault(text):
    """The column of the fault of an entry text, or None, by the words of point 43."""
    if "=" not in text:
        return len(text) + 1
    at = text.index("=") + 1
    rest = text[at:]
    if re.match("[0-9]", rest):
        found = slow_fault(rest)
        return None if found is None else at + found
    if re.match("formula [0-9] ", rest):
        told = outcome(read_formula, rest[10:])
        return at + 10 + told[1] if told[0] is SyntaxFault else None
    if re.fullmatch("not [^ ]+|(both|either|one) [^ ]+ [^ ]+", rest):
        return None
    return at + 1


class MachineTextTest(unittest.TestCase):
    def test_written(self):
        for machine, text in (
            ((((0,),), 0, ()), "0;0;"),
            ((((0, 0, 0, 0),), 0, (0,)), "0 0 0 0;0;0"),
            ((((1, 0), (2, 0), (2, 0)), 0, (0, 2)), "1 0/2 0/2 0;0;0 2"),
            ((((1,), (0,)), 1, (0, 1)), "1/0;1;0 1"),
            (wheel_machine(12), "1/2/3/4/5/6/7/8/9/10/11/0;0;0"),
        ):
            self.assertEqual(write_machine(machine), text)
            self.assertEqual(read_machine(text), machine)

    def test_back_and_forth(self):
        machines = [*random_machines(141, 200, 40, 4), *random_machines(142, 100, 3, 4), *every_machine(2, 1),
                    wheel_machine(40, 4)]
        for machine in machines:
            text = write_machine(machine)
            self.assertEqual(read_machine(text), machine)
            self.assertLess(len(text), 1000)
            self.assertEqual(slow_fault(text), None)

    def test_good_states_in_any_order(self):
        for text, good in (("0/1/2;0;2 0 1", (0, 1, 2)), ("0/1/2;1;2 2 2", (2,)), ("0/1/2;1;1 0 1 0", (0, 1)),
                           ("0/1/2;2;0 0", (0,))):
            self.assertEqual(read_machine(text), make_machine([[0], [1], [2]], int(text[6]), list(good)))

    def test_example(self):
        self.assertEqual(write_machine(make_machine([[1, 0], [2, 0], [2, 0]], 0, [2, 0])), "1 0/2 0/2 0;0;0 2")


class MachineFaultTest(unittest.TestCase):
    def check(self, text, column):
        """The text must have its fault there."""
        with self.subTest(text):
            with self.assertRaises(SyntaxFault) as caught:
                read_machine(text)
            self.assertEqual(caught.exception.column, column)
            self.assertEqual(slow_fault(text), column)

    def test_ends_too_early(self):
        whole = "10 0/1 0;1;0 1"
        for end in (0, 3, 5, 7, 9, 13):
            self.check(whole[:end], end + 1)
        for text in ("", "0", "10", "0 ", "0/", "0;", "0;0", "0;0;0 ", "0 1/2 3", "0 1/2 3;4", "0;99"):
            self.check(text, len(text) + 1)

    def test_leading_zeros(self):
        for text, column in (("1 0/02 0;0;", 6), ("00;0;", 2), ("0 00;0;", 4), ("0;00;", 4), ("0;0;00", 6), ("0;0;0 01", 8),
                             ("01", 2)):
            self.check(text, column)

    def test_three_digits(self):
        for text, column in (("100;0;", 3), ("0 123;0;", 5), ("0;100;", 5), ("0;0;100", 7), ("10/999;0;", 6), ("0;0;0 110", 9)):
            self.check(text, column)

    def test_missing_parts(self):
        for text, column in ((";0;", 1), ("/0;0;", 1), ("0/;0;", 3), ("0//0;0;", 3), ("0;;", 3), ("0;0;;", 5), ("0;0/0;", 4),
                             ("0;0 0;", 4), ("0;0;0/0", 6), ("0;0;0;", 6), ("0;/", 3), (" ", 1), (";", 1), ("/", 1)):
            self.check(text, column)

    def test_spaces(self):
        for text, column in ((" 0;0;", 1), ("0  0;0;", 3), ("0 ;0;", 3), ("0 /0;0;", 3), ("0/ 0;0;", 3), ("0; 0;", 3),
                             ("0;0 ;", 4), ("0;0; ", 5), ("0;0; 0", 5), ("0;0;0  0", 7)):
            self.check(text, column)

    def test_other_characters(self):
        for sign in "ax-+.,:_|=()~!\"#$&'*<>?@[]^{}":
            for text, column in ((sign, 1), (f"0{sign}", 2), (f"0 {sign}", 3), (f"-{sign}", 1), (f"0;{sign}", 3),
                                 (f"0;0{sign};", 4), (f"0;0;{sign}", 5), (f"0;0;0{sign}", 6), (f"0;0;10 1{sign}", 9)):
                self.check(text, column)

    def test_all_short_texts(self):
        signs = "0 /;21"
        for length in range(7):
            for row in product(signs, repeat=length):
                text = "".join(row)
                column = slow_fault(text)
                told = outcome(read_machine, text)
                if column is None:
                    self.assertNotEqual(told[0], SyntaxFault)
                else:
                    self.assertEqual(told, (SyntaxFault, column, None), text)

    def test_changed_texts(self):
        random = Random(143)
        for machine in random_machines(144, 300, 12, 4):
            text = list(write_machine(machine))
            for _ in range(random.randint(1, 3)):
                at = random.randrange(len(text))
                text[at] = random.choice(("", "0", "12", " ", "/", ";", "a", "  "))
            text = "".join(text)
            column = slow_fault(text)
            told = outcome(read_machine, text)
            with self.subTest(text):
                if column is not None:
                    self.assertEqual(told, (SyntaxFault, column, None))
                else:
                    self.assertIsNot(told[0], SyntaxFault)

    def test_long_texts(self):
        text = "0/" * 999 + "0"
        self.check(text, 2000)
        self.check("0" + " 0" * 998 + ";0", 2000)


class InvalidMachineTest(unittest.TestCase):
    def test_texts_without_a_fault(self):
        for text in ("0 0/0;0;", "0/0 0;0;", "0 0 0 0 0;0;", "1;0;", "99;0;", "0;1;", "0;99;", "0;0;1", "0;0;0 1", "0;0;99",
                     "0/1/3;0;", "/".join(["0"] * 41) + ";0;", "/".join(["0"] * 40) + ";40;", "/".join(["0"] * 40) + ";0;40",
                     "/".join(["0"] * 500) + ";0;", "0" + " 0" * 500 + ";0;"):
            with self.subTest(text):
                self.assertIsNone(slow_fault(text))
                with self.assertRaises(InvalidMachine):
                    read_machine(text)

    def test_a_fault_stands_ahead(self):
        for text, column in (("5;0", 4), ("0 0/0;7;x", 9), ("9/9;9;09", 8), ("0 0 0 0 0;5", 12), ("5;0;00", 6)):
            told = outcome(read_machine, text)
            self.assertEqual(told, (SyntaxFault, column, None))


def full_bench():
    """A bench with each kind of entry, not added in the order of `order`."""
    bench = Bench()
    bench.add("x", EVEN)
    bench.add("c", (((0,),), 0, ()))
    bench.define("b", ("not", "x"))
    bench.define("a", ("both", "x", "b"))
    bench.define("y", ("formula", " b  since(a)", 2))
    bench.define("d", ("either", "y", "b"))
    bench.define("one", ("one", "d", "d"))
    return bench


FULL = [
    "c=0;0;",
    "x=1 0/0 1;0;0",
    "b=not x",
    "a=both x b",
    "y=formula 2  b  since(a)",
    "d=either y b",
    "one=one d d",
]


class BenchTextTest(unittest.TestCase):
    def test_written(self):
        bench = full_bench()
        told = write_bench(bench)
        self.assertIsInstance(told, list)
        self.assertEqual(told, FULL)
        self.assertEqual(write_bench(Bench()), [])
        self.assertEqual(bench.made, 0)
        self.assertEqual([text.split("=")[0] for text in told], bench.order())
        told.clear()
        self.assertEqual(write_bench(bench), FULL)

    def test_read(self):
        bench = read_bench(FULL)
        self.assertIsInstance(bench, Bench)
        self.assertEqual(state_of(bench), state_of(full_bench()))
        self.assertEqual(bench.entry("y"), ("formula", " b  since(a)", 2))
        self.assertEqual(bench.entry("x"), EVEN)
        self.assertEqual(bench.made, 0)
        self.assertIs(bench.undo(), False)
        self.assertIs(bench.redo(), False)
        self.assertEqual(state_of(bench), state_of(full_bench()))
        self.assertEqual(machine_at(bench, "a"), machine_at(full_bench(), "a"))
        self.assertEqual(bench.made, 2)
        self.assertEqual(read_bench([]).names(), [])

    def test_edits_of_what_was_read(self):
        texts = list(FULL)
        bench = read_bench(texts)
        self.assertEqual(texts, FULL)
        bench.set_start("x", 1)
        bench.remove("one")
        self.assertEqual(write_bench(bench), ["c=0;0;", "x=1 0/0 1;1;0", *FULL[2:-1]])
        self.assertIs(bench.undo(), True)
        self.assertIs(bench.undo(), True)
        self.assertIs(bench.undo(), False)
        self.assertEqual(write_bench(bench), FULL)

    def test_one_after_another(self):
        bench = read_bench(["x=0;0;0", "b=not x", "y=0;0;", "b=both y x", "b=formula 1 a", "c=one b x"])
        self.assertEqual(write_bench(bench), ["b=formula 1 a", "x=0;0;0", "c=one b x", "y=0;0;"])
        self.assertEqual(bench.entry("b"), ("formula", "a", 1))
        self.assertIs(bench.undo(), False)

    def test_names_that_are_words(self):
        texts = ["formula=0;0;", "not=0;0;0", "both=not not", "either=both both formula", "start=formula 1 start"]
        bench = read_bench(texts)
        self.assertEqual(bench.entry("either"), ("both", "both", "formula"))
        self.assertEqual(sorted(write_bench(bench)), sorted(texts))

    def test_back_and_forth(self):
        for seed in range(150, 190):
            random = Random(seed)
            bench = Bench()
            names = ["aa", "not", "x", "formula", "c", "zzzzzzzzzzzz"]
            for _ in range(40):
                word, arguments = random_call(random, names)
                outcome(getattr(bench, word), *arguments)
            texts = write_bench(bench)
            again = read_bench(texts)
            self.assertEqual(state_of(again), state_of(bench))
            self.assertEqual(write_bench(again), texts)
            self.assertEqual((again.made, again.undo(), again.redo()), (0, False, False))
            self.assertEqual([slow_entry_fault(text) for text in texts], [None] * len(texts))

    def test_long_formulas(self):
        text = "a or " * 58 + "a" + " " * 109
        self.assertEqual(len(text), 400)
        bench = Bench()
        bench.define("abcdefghijkl", ("formula", text, 4))
        self.assertEqual(read_bench(write_bench(bench)).entry("abcdefghijkl"), ("formula", text, 4))

    def test_sixty_names(self):
        names = many_names()
        bench = Bench()
        for at, name in enumerate(names):
            if at % 3 == 0:
                bench.add(name, wheel_machine(40, 4))
            else:
                bench.define(name, ("both", names[at - 1], names[at // 3 * 3]))
        self.assertEqual(state_of(read_bench(write_bench(bench))), state_of(bench))


class EntryFaultTest(unittest.TestCase):
    def check(self, text, column):
        """The text must have its fault there, whatever stands before and behind it."""
        for texts in ([text], ["u=0;0;", text], [text, "x", "=", ""], ["u=0;0;", text, "u=0;0;"]):
            with self.subTest(texts):
                with self.assertRaises(SyntaxFault) as caught:
                    read_bench(texts)
                self.assertEqual(caught.exception.column, column)
        self.assertEqual(slow_entry_fault(text), column)

    def test_no_sign(self):
        for text in ("", "x", "x not y", "0;0;", "formula 2 a", "x 0;0;"):
            self.check(text, len(text) + 1)

    def test_machines(self):
        for text, column in (("x=0", 4), ("x=0;0", 6), ("x=00;0;", 4), ("abc=0  0;0;", 7), ("x=1 0/02 0;0;", 8), ("=0;0;a", 6),
                             ("x=0;0;0=", 8), ("x=0=0;0;", 4), ("abcdefghijkl=100;0;", 16), ("x=0 ", 5), ("x=9not y", 4)):
            self.check(text, column)

    def test_formulas(self):
        for text, column in (("x=formula 2 ", 13), ("x=formula 2 a and or b", 19), ("x=formula 2 a +", 15), ("x=formula 0 b a", 15),
                             ("abc=formula 9 e", 15), ("x=formula 2 a=b", 14), ("x=formula 2 A", 13), ("x=formula 2  ", 14),
                             ("x=formula 1 ( a", 16), ("=formula 2 )", 12), ("x=formula 2 " + "not " * 13, 61)):
            self.check(text, column)

    def test_other_rests(self):
        for rest in ("", "formula", "formula ", "formula 2", "formula 22 a", "formula  2 a", "formula x a", "formula 2a", "Formula 2 a",
                     " formula 2 a", "formula2 a", "formula -1 a", "not", "not ", "not  x", "not x ", "not x y", "not  ", " not x",
                     "both", "both x", "both x ", "both  x", "both x  y", "both x y ", "both x y z", "either x", "one x", "one x y z",
                     "neither x y", "nott x", "Not x", "notx", "both,x,y", ";0;", " 0;0;", "-1;0;", "x", "=", "==", "=0;0;", "all x y",
                     "one", "on e f"):
            for name in ("x", "", "Abc", "abcdefghijklm"):
                self.check(f"{name}={rest}", len(name) + 2)

    def test_no_fault(self):
        for rest in ("not x", "not =", "not x=y", "both 0 1", "either not one", "one + -", "both both both", "not not"):
            self.assertIsNone(slow_entry_fault(f"x={rest}"))
            for texts in ([f"x={rest}"], [f"x={rest}", "x"]):
                with self.assertRaises(UnknownName):
                    read_bench(texts)

    def test_random_texts(self):
        random = Random(145)
        parts = ("x", "=", "not", "both", "either", "one", "formula", " ", " ", "2", "0", ";", "/", "a", "since", "(", ")", "u", "+")
        faults = 0
        for _ in range(6000):
            text = "".join(random.choice(parts) for _ in range(random.randint(1, 9)))
            if random.randrange(2):
                text = "x=" + text
            column = slow_entry_fault(text)
            told = outcome(read_bench, ["u=0;0;", text])
            with self.subTest(text):
                if column is None:
                    self.assertTrue(isinstance(told, Bench) or told[0] is not SyntaxFault)
                else:
                    faults += 1
                    self.assertEqual(told, (SyntaxFault, column, None))
        self.assertGreater(faults, 1000)


class EntryErrorTest(unittest.TestCase):
    def check(self, error, *texts):
        """The texts must raise the error, also where a text behind them has another one."""
        for more in ([], ["x"], ["x=5;0;"], ["X=0;0;"], ["u=not nothing"]):
            with self.subTest(texts):
                with self.assertRaises(error) as caught:
                    read_bench([*texts, *more])
                self.assertIs(type(caught.exception), error)

    def test_invalid_machines(self):
        for text in ("x=5;0;", "x=0;1;", "x=0;0;3", "x=0 0/1;0;", "x=0 0 0 0 0;0;", "=5;0;", "X=0;1;"):
            self.check(InvalidMachine, text)
        self.check(InvalidMachine, "x=0;0;", "x=5;0;")

    def test_names(self):
        for name in ("", "X", "abcdefghijklm", "x ", " x", "x1", "a.b"):
            self.check(InvalidName, f"{name}=0;0;")
            self.check(InvalidName, "u=0;0;", f"{name}=not u")
            self.check(InvalidName, f"{name}=not u")
            self.check(InvalidName, f"{name}=formula 0 a")
        for text in ("x=0;0;0", "x=not x", "x=formula 1 a", "x=formula 7 a", "x=both u gone"):
            self.check(DuplicateName, "x=0;0;", text)
        self.check(DuplicateName, "x=formula 1 a", "x=0;0;0")

    def test_unknown_names(self):
        for rest in ("not y", "not x", "both u y", "either y u", "one y y", "not U", "not =", "both u u=u"):
            self.check(UnknownName, "u=0;0;", f"x={rest}")
        self.check(UnknownName, "x=not y", "y=0;0;")

    def test_circular_definitions(self):
        self.check(CircularDefinition, "x=formula 1 a", "x=not x")
        self.check(CircularDefinition, "x=formula 1 a", "y=not x", "z=both y y", "x=one z z")
        self.check(UnknownName, "x=formula 1 a", "x=both x y")

    def test_digits_that_are_no_count(self):
        for digit in "056789":
            self.check(InvalidEdit, f"x=formula {digit} a")
        for digit in "1234":
            self.assertEqual(read_bench([f"x=formula {digit} a"]).entry("x"), ("formula", "a", int(digit)))

    def test_a_fault_stands_ahead_of_the_other_errors(self):
        for text, column in (("X=5;0", 6), ("=0;9", 5), ("x=formula 9 +", 13), ("X=formula 0 a b", 15), ("X=not", 3),
                             ("x=both gone", 3), ("abcdefghijklm=9;9;9 ", 21)):
            told = outcome(read_bench, ["x=0;0;", text])
            self.assertEqual(told, (SyntaxFault, column, None))

    def test_the_first_text_that_has_one(self):
        texts = ["x=5;0;", "X=0;0;", "y=not gone", "z=formula 8 a", "w=formula 1 b c", "v"]
        errors = [InvalidMachine, InvalidName, UnknownName, InvalidEdit, SyntaxFault, SyntaxFault]
        for at, error in enumerate(errors):
            self.assertEqual(outcome(read_bench, ["u=0;0;", *texts[at:]])[0], error)
            self.assertEqual(outcome(read_bench, [*texts[at:], *texts[:at]])[0], error)
            self.assertEqual(outcome(read_bench, ["u=0;0;", texts[at], *texts[::-1]])[0], error)


if __name__ == "__main__":
    unittest.main()
