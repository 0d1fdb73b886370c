"""Points 8, 15 and 18, and the interface of decomposing.py."""

import unittest
from random import Random

from turnsandthrows.cascade import Cascade
from turnsandthrows.decomposing import decompose
from turnsandthrows.judging import first_fault, group_sizes
from turnsandthrows.machines import make_machine
from turnsandthrows.permutations import prime_numbers

from tests.cascades import all_faults, columns_machine, follows, groups_of, machines, mixed_machines
from tests.tools import all_that_words_do, cycle_lengths, every_lot, every_word, random_machines


def primes_of(machine):
    """The primes of the machine, from all that words do."""
    lengths = set()
    for row in all_that_words_do(machine):
        lengths |= cycle_lengths(row)
    return sorted(lengths & {2, 3, 5})


def machine_of_lots(seed):
    """A machine of 6 states and 3 letters with many lots."""
    random = Random(seed)
    columns = []
    for _ in range(3):
        entries = list(range(6))
        for _ in range(random.randint(1, 3)):
            entries[random.randrange(6)] = random.randrange(6)
        columns.append(entries)
    return columns_machine(columns)


class DecomposeTest(unittest.TestCase):
    def check(self, machine):
        cascade = decompose(machine)
        self.assertIs(type(cascade), Cascade)
        self.assertIsNone(first_fault(machine, cascade))
        sizes = group_sizes(machine, cascade)
        self.assertLessEqual(len(cascade.widths), 80)
        self.assertLessEqual(max(cascade.widths, default=1), 21)
        self.assertLessEqual(max(sizes, default=1), 1000)
        self.assertLessEqual(len(cascade.shown), 1000)
        found = sorted({prime for size in sizes for prime in prime_numbers(size)})
        self.assertEqual(found, primes_of(machine))
        return cascade

    def test_many_machines(self):
        for machine in machines():
            self.check(machine)

    def test_more_machines(self):
        for machine in random_machines(81, 150, 6, 3):
            self.check(machine)
        for machine in mixed_machines(82, 200, 6):
            self.check(machine)
        for seed in range(60):
            self.check(machine_of_lots(seed))

    def test_by_the_words_of_the_points(self):
        for machine in mixed_machines(83, 60, 5):
            cascade = self.check(machine)
            self.assertEqual(all_faults(machine, cascade), [])
            self.assertEqual([len(group) for group in groups_of(machine, cascade)], group_sizes(machine, cascade))

    def test_rows_follow_their_states(self):
        for machine in mixed_machines(84, 15, 4):
            letters = "abc"[:len(machine[0][0])]
            self.assertTrue(follows(machine, decompose(machine), every_word(letters, 4)))

    def test_machines_that_do_not_go_round(self):
        count = 0
        for machine in mixed_machines(85, 200, 6, ("throw", "climb", "one")):
            if primes_of(machine) == []:
                count += 1
                cascade = self.check(machine)
                self.assertEqual(group_sizes(machine, cascade), [1] * len(cascade.widths))
        self.assertGreater(count, 60)

    def test_one_state(self):
        for letters in (1, 2, 3):
            self.check(make_machine([[0] * letters], 0, [0]))

    def test_identity_letters(self):
        for states in range(1, 7):
            cascade = self.check(make_machine([[state, state] for state in range(states)], 0, []))
            self.assertEqual(group_sizes(make_machine([[s, s] for s in range(states)], 0, []), cascade),
                             [1] * len(cascade.widths))

    def test_each_prime(self):
        for count, expected in ((2, [2]), (3, [3]), (4, [2]), (5, [5]), (6, [2, 3])):
            machine = make_machine([[(state + 1) % count] for state in range(count)], 0, [])
            sizes = group_sizes(machine, self.check(machine))
            self.assertEqual(sorted({p for size in sizes for p in prime_numbers(size)}), expected)

    def test_a_prime_that_only_a_lot_shows(self):
        # No letter is a permutation, but ab swaps the states 0 and 1.
        machine = make_machine([[1, 1], [2, 1], [2, 0]], 0, [])
        self.assertEqual(primes_of(machine), [2])
        self.check(machine)

    def test_the_start_and_the_good_states_do_not_matter(self):
        for steps, start, good in mixed_machines(86, 20, 5):
            cascade = decompose((steps, start, good))
            other = decompose((steps, len(steps) - 1, tuple(range(len(steps)))))
            self.assertEqual(other.widths, cascade.widths)
            self.assertEqual((other.acts, other.shown), (cascade.acts, cascade.shown))

    def test_each_answer_is_its_own(self):
        machine = make_machine([[1, 0], [0, 0]], 0, [])
        decompose(machine).shown.clear()
        decompose(machine).acts[0].clear()
        self.check(machine)

    def test_all_lots_of_six_states(self):
        machine = columns_machine([(1, 2, 3, 4, 5, 0), (1, 0, 2, 3, 4, 5), (0, 0, 2, 3, 4, 5)])
        self.assertEqual({tuple(sorted(set(row))) for row in all_that_words_do(machine)}, set(every_lot(6)))
        self.check(machine)


if __name__ == "__main__":
    unittest.main()
