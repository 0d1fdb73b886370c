"""Points 5, 11, 18, 25, 30 and 32 as far as they tell of benches, and the interface of answers.py."""

import unittest
from random import Random

from turnsandthrows.answers import (
    accepts_at,
    cascade_at,
    difference_at,
    machine_at,
    primes_at,
    ring_at,
    sentence_at,
)
from turnsandthrows.bench import Bench
from turnsandthrows.decomposing import decompose
from turnsandthrows.errors import GoesRound, LettersDiffer, TooManyStates, UnknownName
from turnsandthrows.formulas import read_formula
from turnsandthrows.judging import first_fault, group_sizes
from turnsandthrows.least import complement, difference, join, least
from turnsandthrows.lines import check_lines, holds
from turnsandthrows.permutations import prime_numbers
from turnsandthrows.rings import is_ring, primes
from turnsandthrows.telling import machine_of

from tests.benches import BARE, EVEN, SlowBench, many_names, outcome, random_call, slow_call, state_of
from tests.tools import accepted, every_word, random_machines, wheel_machine

ONE_NAME = (machine_at, ring_at, primes_at, cascade_at, sentence_at, lambda bench, name: accepts_at(bench, name, ""))

# A path of five states that only the letter a leads on, from one end to the other.
PATH = (((1, 0), (2, 1), (3, 2), (4, 3), (4, 4)), 0, (4,))


def bench_with(**entries):
    """A bench with these machines and definitions."""
    bench = Bench()
    for name, entry in entries.items():
        if isinstance(entry[0], str):
            bench.define(name, entry)
        else:
            bench.add(name, entry)
    return bench


def making(entry, machines):
    """The machine of a definition, of the machines of the names of which it speaks."""
    if entry[0] == "formula":
        return machine_of(read_formula(entry[1]), entry[2])
    if entry[0] == "not":
        return complement(*machines)
    return join(*machines, entry[0])


class MachineTest(unittest.TestCase):
    def test_machines_of_their_own_stand_as_they_are(self):
        for machine in (BARE, EVEN, (((1, 1), (1, 1), (0, 2)), 2, (0, 1)), wheel_machine(40, 4)):
            bench = bench_with(x=machine)
            self.assertEqual(machine_at(bench, "x"), machine)
            self.assertEqual(bench.made, 0)

    def test_definitions(self):
        third = wheel_machine(3, 2)
        bench = bench_with(even=EVEN, third=third, odd=("not", "even"), two=("both", "even", "third"),
                           some=("either", "odd", "third"), single=("one", "third", "even"),
                           told=("formula", "b since a", 2), three=("formula", "b since a", 3))
        words = every_word("ab", 7)
        even, divided = accepted(EVEN, words), accepted(third, words)
        wanted = {
            "odd": [not e for e in even],
            "two": [e and d for e, d in zip(even, divided)],
            "some": [not e or d for e, d in zip(even, divided)],
            "single": [e != d for e, d in zip(even, divided)],
            "told": [holds(read_formula("b since a"), word) for word in words],
            "three": [holds(read_formula("b since a"), word) for word in words],
        }
        for name, told in wanted.items():
            machine = machine_at(bench, name)
            self.assertEqual(accepted(machine, words), told)
            self.assertEqual(machine, least(machine))
            self.assertEqual(len(machine[0][0]), 3 if name == "three" else 2)
            self.assertEqual([accepts_at(bench, name, word) for word in words], told)

    def test_letters_of_formulas(self):
        for count in (1, 2, 3, 4):
            bench = bench_with(x=("formula", "c", count))
            self.assertEqual(machine_at(bench, "x"), making(("formula", "c", count), []))
            self.assertEqual(len(machine_at(bench, "x")[0][0]), count)

    def test_letters_differ(self):
        bench = bench_with(x=EVEN, y=wheel_machine(2), z=("both", "x", "y"), w=("not", "z"))
        for name in ("z", "w"):
            for ask in ONE_NAME:
                with self.assertRaises(LettersDiffer):
                    ask(bench, name)
        with self.assertRaises(LettersDiffer):
            difference_at(bench, "x", "y")
        with self.assertRaises(LettersDiffer):
            difference_at(bench, "x", "w")

    def test_too_many_states(self):
        bench = bench_with(x=wheel_machine(7), y=wheel_machine(6), z=("both", "x", "y"), w=("not", "z"),
                           k=("formula", "before " * 6 + "a", 2), b=wheel_machine(5), o=wheel_machine(8),
                           most=("both", "b", "o"))
        for name in ("z", "w", "k"):
            for ask in ONE_NAME:
                with self.assertRaises(TooManyStates):
                    ask(bench, name)
        self.assertEqual(machine_at(bench, "most"), wheel_machine(40))

    def test_the_example(self):
        bench = bench_with(even=EVEN, odd=("not", "even"))
        bench.set_step("even", 1, "b", 0)
        self.assertEqual(machine_at(bench, "odd"), (((1, 0), (0, 0)), 0, (1,)))


class UnknownNameTest(unittest.TestCase):
    def test_ahead_of_all_others(self):
        bench = bench_with(x=EVEN, y=wheel_machine(2), z=("both", "x", "y"), n=("not", "x"))
        before = state_of(bench)
        for name in ("", "gone", "X"):
            for ask in ONE_NAME:
                with self.assertRaises(UnknownName):
                    ask(bench, name)
            for first, second in ((name, "z"), ("z", name), ("n", name), (name, "n"), (name, name), ("y", name)):
                with self.assertRaises(UnknownName):
                    difference_at(bench, first, second)
        self.assertEqual((bench.made, state_of(bench)), (0, before))


class AcceptsTest(unittest.TestCase):
    def test_letters_that_the_machine_does_not_have(self):
        bench = bench_with(x=(((0, 0),), 0, (0,)), y=("not", "x"), z=("not", "y"))
        for name, told in (("x", True), ("y", False), ("z", True)):
            for word in ("", "a", "b", "abba"):
                self.assertIs(accepts_at(bench, name, word), told)
            for word in ("c", "d", "abc", "cab", "acb", "dddd"):
                self.assertIs(accepts_at(bench, name, word), False)

    def test_the_machine_is_needed_all_the_same(self):
        bench = bench_with(x=EVEN, y=("not", "x"), z=wheel_machine(2), w=("one", "x", "z"))
        self.assertIs(accepts_at(bench, "y", "d"), False)
        self.assertEqual(bench.made, 1)
        with self.assertRaises(LettersDiffer):
            accepts_at(bench, "w", "d")
        self.assertEqual(bench.made, 2)

    def test_long_words(self):
        bench = bench_with(x=wheel_machine(39))
        self.assertIs(accepts_at(bench, "x", "a" * 3900), True)
        self.assertIs(accepts_at(bench, "x", "a" * 3999), False)


class DifferenceTest(unittest.TestCase):
    def test_least_words(self):
        machines = list(random_machines(81, 60, 5, 3))
        for first in machines:
            for second in machines[:20]:
                if len(first[0][0]) == len(second[0][0]):
                    bench = bench_with(x=first, y=("not", "x"), z=second)
                    self.assertEqual(difference_at(bench, "x", "z"), difference(first, second))
                    self.assertEqual(difference_at(bench, "x", "y"), "")
                    self.assertIsNone(difference_at(bench, "y", "y"))

    def test_what_is_needed(self):
        bench = bench_with(x=EVEN, y=wheel_machine(2), bad=("both", "x", "y"), n=("not", "x"), m=("not", "y"),
                           big=("formula", "before " * 6 + "a", 2))
        for first, second, error, made in (("bad", "big", LettersDiffer, 1), ("big", "bad", TooManyStates, 1),
                                           ("n", "bad", LettersDiffer, 2), ("n", "m", LettersDiffer, 1),
                                           ("bad", "n", LettersDiffer, 1), ("n", "m", LettersDiffer, 0)):
            before = bench.made
            with self.assertRaises(error):
                difference_at(bench, first, second)
            self.assertEqual(bench.made - before, made)


class TakingApartTest(unittest.TestCase):
    def machines(self):
        """Machines with at most three letters, with least machines of at most six states."""
        for machine in random_machines(91, 120, 8, 3):
            if len(least(machine)[0]) <= 6:
                yield machine
        for count in range(1, 7):
            yield wheel_machine(count, 2)
        yield PATH

    def test_rings_primes_and_cascades(self):
        for machine in self.machines():
            bench = bench_with(x=machine, y=("not", "x"))
            told = least(machine)
            for name, own in (("x", told), ("y", complement(machine))):
                ring = ring_at(bench, name)
                self.assertEqual(primes_at(bench, name), primes(own))
                self.assertEqual(ring is None, primes(own) == [])
                self.assertTrue(ring is None or is_ring(own, *ring))
                cascade = cascade_at(bench, name)
                self.assertIsNone(first_fault(own, cascade))
                self.assertEqual(cascade.shown, decompose(own).shown)
                dividing = {prime for size in group_sizes(own, cascade) for prime in prime_numbers(size)}
                self.assertEqual(sorted(dividing), primes(own))
            self.assertEqual(bench.made, 1)

    def test_sentences(self):
        words = every_word("abc", 5)
        for machine in self.machines():
            told = least(machine)
            if len(told[0]) > 5:
                continue
            bench = bench_with(x=machine, y=("not", "x"))
            for name, own in (("x", told), ("y", complement(machine))):
                if primes(own):
                    with self.assertRaises(GoesRound) as caught:
                        sentence_at(bench, name)
                    self.assertTrue(is_ring(own, *caught.exception.ring))
                else:
                    lines = sentence_at(bench, name)
                    self.assertEqual(check_lines(list(lines)), lines)
                    self.assertEqual(machine_of(lines, len(own[0][0])), own)
                    letters = "abc"[:len(own[0][0])]
                    short = [word for word in words if set(word) <= set(letters)][:40]
                    self.assertEqual([holds(lines, word) for word in short], accepted(own, short))

    def test_the_bounds(self):
        six, seven = wheel_machine(6, 3), wheel_machine(7, 3)
        letters = wheel_machine(2, 4)
        bench = bench_with(six=six, seven=seven, letters=letters, path=PATH, one=wheel_machine(1, 4))
        for ask in (ring_at, primes_at, cascade_at, sentence_at):
            for name in ("seven", "letters", "one"):
                with self.assertRaises(TooManyStates):
                    ask(bench, name)
        self.assertEqual(primes_at(bench, "six"), [2, 3])
        self.assertIsNone(first_fault(least(six), cascade_at(bench, "six")))
        self.assertTrue(is_ring(least(six), *ring_at(bench, "six")))
        with self.assertRaises(TooManyStates):
            sentence_at(bench, "six")
        self.assertEqual(machine_of(sentence_at(bench, "path"), 2), PATH)
        # What has six states but goes round has too many states first.
        self.assertEqual(bench.made, 0)

    def test_the_least_machine_counts(self):
        # Forty states, all good: one state. Four letters stay four.
        wide = (tuple(((state + 1) % 40,) * 3 for state in range(40)), 0, tuple(range(40)))
        halves = (wide[0], 1, tuple(range(0, 40, 2)))
        bench = bench_with(wide=wide, halves=halves)
        self.assertIsNone(ring_at(bench, "wide"))
        self.assertEqual(primes_at(bench, "wide"), [])
        self.assertEqual(machine_of(sentence_at(bench, "wide"), 3), least(wide))
        self.assertIsNone(first_fault(least(wide), cascade_at(bench, "wide")))
        self.assertEqual(primes_at(bench, "halves"), [2])
        self.assertTrue(is_ring(least(halves), *ring_at(bench, "halves")))
        with self.assertRaises(GoesRound) as caught:
            sentence_at(bench, "halves")
        self.assertTrue(is_ring(least(halves), *caught.exception.ring))

    def test_results_belong_to_the_caller(self):
        bench = bench_with(x=wheel_machine(6))
        primes_at(bench, "x").clear()
        cascade_at(bench, "x").shown.clear()
        self.assertEqual(primes_at(bench, "x"), [2, 3])
        self.assertIsNone(first_fault(wheel_machine(6), cascade_at(bench, "x")))


class MadeTest(unittest.TestCase):
    def test_each_machine_is_made_once(self):
        bench = bench_with(x=EVEN, n=("not", "x"), m=("not", "n"), b=("both", "n", "m"), f=("formula", "a", 2),
                           t=("one", "b", "b"))
        self.assertEqual(bench.made, 0)
        for call, made in ((lambda: machine_at(bench, "x"), 0), (lambda: machine_at(bench, "m"), 2),
                           (lambda: machine_at(bench, "n"), 2), (lambda: accepts_at(bench, "b", "ab"), 3),
                           (lambda: difference_at(bench, "b", "m"), 3), (lambda: sentence_at(bench, "f"), 4),
                           (lambda: outcome(sentence_at, bench, "n"), 4), (lambda: ring_at(bench, "m"), 4),
                           (lambda: difference_at(bench, "t", "t"), 5), (lambda: state_of(bench), 5),
                           (lambda: primes_at(bench, "t"), 5), (lambda: cascade_at(bench, "b"), 5)):
            call()
            self.assertEqual(bench.made, made)

    def test_a_name_twice(self):
        bench = bench_with(x=EVEN, n=("not", "x"), t=("one", "n", "n"))
        machine_at(bench, "t")
        self.assertEqual(bench.made, 2)

    def test_what_raises_is_made_again(self):
        bench = bench_with(x=EVEN, y=wheel_machine(2), n=("not", "x"), m=("not", "y"), z=("both", "n", "m"),
                           w=("not", "z"))
        for made in (3, 4, 5):
            with self.assertRaises(LettersDiffer):
                machine_at(bench, "w")
            self.assertEqual(bench.made, made)
        machine_at(bench, "n")
        machine_at(bench, "m")
        self.assertEqual(bench.made, 5)
        bench.add_letter("y")
        machine_at(bench, "w")
        self.assertEqual(bench.made, 8)

    def test_the_left_stands_ahead_of_the_right(self):
        many = ("formula", "before " * 6 + "a", 2)
        bench = bench_with(x=EVEN, y=wheel_machine(2), bad=("both", "x", "y"), big=many, n=("not", "x"))
        for entry, error, made in ((("both", "bad", "big"), LettersDiffer, 1), (("both", "big", "bad"), TooManyStates, 1),
                                   (("one", "bad", "n"), LettersDiffer, 1), (("one", "n", "big"), TooManyStates, 2),
                                   (("one", "n", "bad"), LettersDiffer, 1), (("either", "n", "y"), LettersDiffer, 1),
                                   (("either", "y", "bad"), LettersDiffer, 1)):
            bench.define("z", entry)
            before = bench.made
            with self.assertRaises(error):
                machine_at(bench, "z")
            self.assertEqual(bench.made - before, made, entry)

    def test_edits_touch_what_hangs_on_the_name(self):
        bench = bench_with(x=EVEN, y=EVEN, n=("not", "x"), m=("not", "n"), k=("not", "y"), b=("both", "m", "k"))
        names = ("n", "m", "k", "b")

        def remade(call):
            """The names whose machines are made again after the call."""
            call()
            found = []
            for name in names:
                before = bench.made
                machine_at(bench, name)
                self.assertLessEqual(bench.made - before, 1)
                if bench.made > before:
                    found.append(name)
            return found

        self.assertEqual(remade(lambda: None), ["n", "m", "k", "b"])
        self.assertEqual(remade(lambda: None), [])
        self.assertEqual(remade(lambda: bench.set_start("x", 0)), ["n", "m", "b"])
        self.assertEqual(remade(lambda: bench.set_good("y", 1, True)), ["k", "b"])
        self.assertEqual(remade(bench.undo), ["k", "b"])
        self.assertEqual(remade(bench.redo), ["k", "b"])
        self.assertEqual(remade(lambda: bench.define("m", ("not", "n"))), ["m", "b"])
        self.assertEqual(remade(lambda: bench.define("m", ("not", "y"))), ["m", "b"])
        self.assertEqual(remade(lambda: bench.set_step("x", 0, "a", 0)), ["n"])
        self.assertEqual(remade(lambda: bench.add("z", EVEN)), [])
        self.assertEqual(remade(lambda: bench.remove("z")), [])
        self.assertEqual(remade(lambda: outcome(bench.set_start, "x", 9)), [])
        self.assertEqual(remade(lambda: outcome(bench.define, "n", ("not", "n"))), [])
        self.assertEqual(remade(lambda: outcome(bench.remove, "x")), [])
        self.assertEqual(remade(bench.undo), [])
        self.assertEqual(remade(bench.undo), [])
        self.assertEqual(remade(bench.undo), ["n"])
        self.assertEqual(remade(bench.undo), ["m", "b"])
        self.assertEqual(remade(bench.undo), ["m", "b"])

    def test_undoing_gives_no_kept_machine_back(self):
        bench = bench_with(x=EVEN, n=("not", "x"))
        told = machine_at(bench, "n")
        bench.set_good("x", 1, True)
        self.assertEqual(bench.made, 1)
        bench.undo()
        self.assertEqual(bench.made, 1)
        self.assertEqual(machine_at(bench, "n"), told)
        self.assertEqual(bench.made, 2)
        bench.undo()
        bench.redo()
        self.assertEqual(machine_at(bench, "n"), told)
        self.assertEqual(bench.made, 3)

    def test_what_was_made_stays_kept_behind_an_error(self):
        bench = bench_with(x=EVEN, y=wheel_machine(2), n=("not", "x"), m=("not", "y"))
        with self.assertRaises(LettersDiffer):
            difference_at(bench, "n", "m")
        self.assertEqual(bench.made, 2)
        machine_at(bench, "n")
        machine_at(bench, "m")
        self.assertEqual(bench.made, 2)

    def test_a_long_chain(self):
        names = many_names()
        bench = bench_with(**{names[0]: EVEN})
        for at in range(1, 60):
            bench.define(names[at], ("not", names[at - 1]))
        self.assertEqual(machine_at(bench, names[59]), complement(EVEN))
        self.assertEqual(bench.made, 59)
        bench.set_start(names[0], 1)
        self.assertEqual(machine_at(bench, names[58]), least((EVEN[0], 1, EVEN[2])))
        self.assertEqual(bench.made, 59 + 58)


class RandomCallsTest(unittest.TestCase):
    def test_against_the_slow_bench(self):
        for seed in range(40):
            random = Random(100 + seed)
            names = ["x", "y", "z", "v", "w"][:random.randint(2, 5)]
            bench, slow = Bench(), SlowBench()
            for _ in range(60):
                word, arguments = random_call(random, names)
                self.assertEqual(outcome(getattr(bench, word), *arguments), outcome(slow_call, slow, word, arguments))
                name = random.choice(names)
                if name in slow.entries() and random.randrange(2):
                    with self.subTest(seed, name=name):
                        self.assertEqual(outcome(machine_at, bench, name), outcome(slow.need, name, making))
                        self.assertEqual(bench.made, slow.made)
                        self.assertEqual(bench.names(), sorted(slow.entries()))


if __name__ == "__main__":
    unittest.main()
