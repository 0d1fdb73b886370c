"""Points 2, 6, 15, 18, 21 and 32 over the whole program: what its parts say of each other."""

import unittest

from turnsandthrows.answers import (
    accepts_at,
    cascade_at,
    difference_at,
    machine_at,
    primes_at,
    ring_at,
    sentence_at,
)
from turnsandthrows.bench import Bench
from turnsandthrows.congruences import congruences, parting, quotient
from turnsandthrows.decomposing import decompose
from turnsandthrows.errors import GoesRound
from turnsandthrows.formulas import read_formula, write_formula
from turnsandthrows.groups import factors
from turnsandthrows.judging import first_fault, group_sizes, turns
from turnsandthrows.least import difference, least
from turnsandthrows.lines import holds
from turnsandthrows.machines import accepts, letters_of, words_upto
from turnsandthrows.monoid import settling, transformations
from turnsandthrows.permutations import generated, prime_numbers
from turnsandthrows.pieces import is_prime, piece_machine, split
from turnsandthrows.records import read_cascade, write_cascade
from turnsandthrows.resetting import resetting_word
from turnsandthrows.rings import find_ring, primes
from turnsandthrows.sides import side_by_side
from turnsandthrows.telling import machine_of
from turnsandthrows.texts import read_bench, read_machine, write_bench, write_machine

from tests.benches import EVEN
from tests.cascades import mixed_machines, parts_of
from tests.tools import in_order, random_machines, wheel_machine


def machines(seed, count, most_states=6):
    """Machines with good states, whose least machines have at most so many states."""
    for machine in random_machines(seed, count, most_states + 2, 3):
        if len(least(machine)[0]) <= most_states:
            yield machine
    for size in range(1, most_states + 1):
        yield wheel_machine(size, 2)
    for steps, _, _ in mixed_machines(seed, count, most_states):
        yield (steps, len(steps) - 1, tuple(range(0, len(steps), 2)))


def words_of(machine):
    """Some words over the letters of the machine."""
    letters = letters_of(machine)
    return words_upto(letters, {1: 12, 2: 6, 3: 4}[len(letters)]) + [letters * 20, letters[0] * 33 + letters[-1]]


def copied(cascade):
    """The cascade, written and read again."""
    return read_cascade(write_cascade(cascade))


class CascadesTest(unittest.TestCase):
    def follow(self, machine, cascade):
        """The machine must accept a word exactly if a row of the start is led to one that shows a good state."""
        told = least(machine)
        for origin in cascade.rows_of(told[1])[:3]:
            for word in words_of(machine):
                shows = cascade.shown[cascade.run(origin, word)]
                self.assertEqual(shows in told[2], accepts(machine, word))

    def test_words_and_rows(self):
        for machine in machines(161, 40):
            cascade = decompose(least(machine))
            self.follow(machine, cascade)
            self.follow(read_machine(write_machine(machine)), copied(cascade))

    def test_words_and_rows_of_a_bench(self):
        for machine in machines(162, 25):
            bench = Bench()
            bench.add("own", machine)
            bench.define("other", ("not", "own"))
            bench.define("same", ("not", "other"))
            bench = read_bench(write_bench(bench))
            self.assertIsNone(difference_at(bench, "own", "same"))
            self.assertEqual(machine_at(bench, "same"), least(machine))
            self.follow(machine_at(bench, "other"), copied(cascade_at(bench, "other")))
            for word in words_of(machine):
                self.assertIs(accepts_at(bench, "other", word), not accepts(machine, word))
            self.assertEqual(bench.made, 2)

    def test_a_text_between_changes_nothing(self):
        for machine in machines(163, 40):
            again = read_machine(write_machine(machine))
            cascade = decompose(again)
            self.assertIsNone(first_fault(machine, copied(cascade)))
            self.assertEqual(group_sizes(machine, copied(cascade)), group_sizes(machine, cascade))
            for level in range(len(cascade.widths)):
                self.assertEqual(turns(machine, copied(cascade), level), turns(machine, cascade, level))

    def test_primes_of_machines_and_of_cascades(self):
        for machine in machines(164, 40):
            found = primes(machine)
            cascade = decompose(machine)
            sizes = group_sizes(machine, cascade)
            self.assertEqual(sorted({prime for size in sizes for prime in prime_numbers(size)}), found)
            turned = any(turn != tuple(range(len(turn))) for level in range(len(sizes))
                         for turn in turns(machine, cascade, level))
            self.assertIs(turned, find_ring(machine) is not None)
            if parting(machine) is not None and len(machine[0]) < 6:
                p, q = parting(machine)
                sides = side_by_side(machine, p, decompose(quotient(machine, p)), q, decompose(quotient(machine, q)))
                dividing = {prime for size in group_sizes(machine, sides) for prime in prime_numbers(size)}
                self.assertLessEqual(set(found), dividing)
                self.assertEqual(dividing, {prime for row in (p, q) for prime in primes(quotient(machine, row))})
            # A quotient goes round by no prime by which the machine does not.
            for row in congruences(machine)[:5]:
                self.assertLessEqual(set(primes(quotient(machine, row))), set(found))

    def test_prime_cascades_side_by_side(self):
        acts = [(1, 2, 0), (0, 0, 0)]
        machine = piece_machine(acts)
        first = split(acts)
        still = quotient(machine, (0, 0, 0))
        sides = side_by_side(machine, (0, 1, 2), copied(first), (0, 0, 0), decompose(still))
        self.assertEqual((sides.widths, sides.shown), (first.widths, first.shown))
        self.assertTrue(is_prime(machine, copied(sides)))
        sizes = [size for size in group_sizes(machine, sides) if size > 1]
        self.assertEqual(sizes, factors(generated(3, [(1, 2, 0)])))


class AnswersTest(unittest.TestCase):
    def test_sentences_rings_and_settling(self):
        for machine in machines(165, 40, 5):
            bench = Bench()
            bench.add("x", machine)
            told = least(machine)
            ring = ring_at(bench, "x")
            self.assertEqual(ring is None, primes_at(bench, "x") == [])
            if len(told[0]) <= 4:
                self.assertEqual(settling(told) is None, ring is not None)
                single = [word for row, word in transformations(told).items() if len(set(row)) == 1]
                self.assertEqual(resetting_word(told), in_order(single)[0] if single else None)
            if ring is None:
                lines = sentence_at(bench, "x")
                self.assertEqual(machine_of(lines, len(told[0][0])), told)
                for word in words_of(machine)[:60]:
                    self.assertIs(holds(lines, word), accepts_at(bench, "x", word))
            else:
                with self.assertRaises(GoesRound):
                    sentence_at(bench, "x")

    def test_formulas_on_a_bench(self):
        for text in ("b since a", "not (a or before b)", "before before a and not start", "true since (a and before c)"):
            for count in (1, 2, 3, 4):
                bench = Bench()
                bench.define("one", ("formula", text, count))
                bench.define("other", ("formula", write_formula(read_formula(text)), count))
                bench.define("differ", ("one", "one", "other"))
                bench = read_bench(write_bench(bench))
                self.assertEqual(machine_at(bench, "differ"), (((0,) * count,), 0, ()))
                self.assertIsNone(difference_at(bench, "one", "other"))
                self.assertEqual(machine_at(bench, "one"), machine_of(read_formula(text), count))
                self.assertEqual(bench.made, 3)

    def test_equal_in_words(self):
        found = list(machines(166, 30, 3))
        for first in found:
            for second in found[::5]:
                if len(first[0][0]) == len(second[0][0]):
                    self.assertEqual(difference(first, second) is None, least(first) == least(second))

    def test_texts_need_no_machines(self):
        bench = Bench()
        bench.add("x", EVEN)
        bench.add("y", wheel_machine(2))
        bench.define("z", ("both", "x", "y"))
        again = read_bench(write_bench(bench))
        self.assertEqual((bench.made, again.made), (0, 0))
        self.assertEqual(write_bench(again), ["x=1 0/0 1;0;0", "y=1/0;0;0", "z=both x y"])


class ArgumentsTest(unittest.TestCase):
    def test_cascades_that_are_read_stay_as_they_are(self):
        machine = wheel_machine(6)
        p, q = parting(machine)
        first, second = decompose(quotient(machine, p)), decompose(quotient(machine, q))
        before = parts_of(first), parts_of(second)
        sides = side_by_side(machine, p, first, q, second)
        sides.shown.clear()
        for table in sides.acts:
            table.clear()
        write_cascade(first)
        self.assertEqual((parts_of(first), parts_of(second)), before)

    def test_lists_of_texts_stay_as_they_are(self):
        texts = ["x=0;0;", "y=not x"]
        bench = read_bench(texts)
        texts.clear()
        self.assertEqual(bench.names(), ["x", "y"])
        write_bench(bench).clear()
        self.assertEqual(write_bench(bench), ["x=0;0;", "y=not x"])


if __name__ == "__main__":
    unittest.main()
