"""Points 36 to 38, and the interface of congruences.py."""

import unittest
from itertools import product
from random import Random

from turnsandthrows.congruences import (
    bound_pair,
    congruences,
    is_congruence,
    join_of,
    least_congruence,
    meet_of,
    parting,
    quotient,
)
from turnsandthrows.machines import make_machine

from tests.partitions import (
    all_congruences,
    every_partition,
    finest_of,
    is_finer,
    is_kept,
    machines,
    renumbered,
    together,
)
from tests.tools import wheel_machine


class IsCongruenceTest(unittest.TestCase):
    def test_all_partitions(self):
        for machine in list(machines())[::3]:
            for row in every_partition(len(machine[0])):
                self.assertIs(is_congruence(machine, row), is_kept(machine, row))

    def test_any_tuples(self):
        for machine in list(machines())[::5]:
            count = len(machine[0])
            if count > 4:
                continue
            told = all_congruences(machine)
            for length in range(count + 2):
                for row in product(range(-1, min(length, 4) + 1), repeat=length):
                    self.assertIs(is_congruence(machine, row), row in told)

    def test_wrong_ones(self):
        still = make_machine([[0], [1], [2]], 0, [])
        for row in ((0, 0, 0), (0, 0, 1), (0, 1, 0), (0, 1, 1), (0, 1, 2)):
            self.assertIs(is_congruence(still, row), True)
        for row in ((), (0,), (0, 1), (0, 1, 2, 3), (0, 0, 0, 0), (1, 1, 1), (1, 0, 0), (0, 2, 1), (0, 0, 2), (0, 2, 2),
                    (-1, -1, -1), (0, -1, -1), (0, 0, -1), (0, 1, 3), (1, 2, 3), (0, 1, 10 ** 20)):
            self.assertIs(is_congruence(still, row), False)
        turned = make_machine([[1], [2], [0]], 0, [])
        for row in ((0, 0, 1), (0, 1, 0), (0, 1, 1)):
            self.assertIs(is_congruence(turned, row), False)
        self.assertIs(is_congruence(make_machine([[0, 0]], 0, []), (0,)), True)
        self.assertIs(is_congruence(make_machine([[0, 0]], 0, []), (1,)), False)
        self.assertIs(is_congruence(make_machine([[0, 0]], 0, []), ()), False)

    def test_each_letter_counts(self):
        # The first letter keeps the partition, the second one or the third one does not.
        keeps = ((0, 0), (1, 1), (2, 2))
        for machine in (make_machine([[0, 0], [1, 2], [2, 1]], 0, []), make_machine([[0, 0, 0], [1, 1, 1], [2, 2, 0]], 0, [])):
            self.assertIs(is_congruence(machine, (0, 0, 1)), len(machine[0][0]) == 3)
            self.assertIs(is_congruence(machine, (0, 1, 1)), len(machine[0][0]) == 2)
        self.assertIs(is_congruence((keeps, 0, ()), (0, 0, 1)), True)


class CongruencesTest(unittest.TestCase):
    def test_against_all_partitions(self):
        for machine in machines():
            told = congruences(machine)
            with self.subTest(machine):
                self.assertIsInstance(told, list)
                self.assertEqual(told, all_congruences(machine))

    def test_least_congruence(self):
        for machine in machines():
            states = range(len(machine[0]))
            found = all_congruences(machine)
            for one, other in product(states, states):
                having = [row for row in found if row[one] == row[other]]
                told = least_congruence(machine, one, other)
                with self.subTest(machine, one=one, other=other):
                    self.assertEqual(told, finest_of(having))
                    self.assertTrue(all(is_finer(told, row) for row in having))
                    if one == other:
                        self.assertEqual(told, tuple(states))

    def test_many_congruences(self):
        still = make_machine([[state] for state in range(6)], 0, [])
        self.assertEqual(len(congruences(still)), 203)
        self.assertEqual(congruences(make_machine([[0, 0]], 0, [])), [(0,)])
        self.assertEqual(congruences(wheel_machine(4)), [(0, 0, 0, 0), (0, 1, 0, 1), (0, 1, 2, 3)])

    def test_start_and_good_states_do_not_matter(self):
        for start in range(3):
            for good in ([], [0], [1, 2]):
                machine = make_machine([[0], [0], [1]], start, good)
                self.assertEqual(congruences(machine), [(0, 0, 0), (0, 0, 1), (0, 1, 2)])
                self.assertEqual(least_congruence(machine, 2, 0), (0, 0, 0))
                self.assertEqual(bound_pair(machine), (0, 1))

    def test_lists_belong_to_the_caller(self):
        congruences(wheel_machine(4)).clear()
        self.assertEqual(len(congruences(wheel_machine(4))), 3)


class MeetAndJoinTest(unittest.TestCase):
    def check(self, p, q):
        """The meet and the join, by the pairs in one block; both ways round."""
        met, joined = meet_of(p, q), join_of(p, q)
        self.assertEqual((met, joined), (meet_of(q, p), join_of(q, p)))
        self.assertEqual((renumbered(met), renumbered(joined)), (met, joined))
        self.assertEqual(together(met), together(p) & together(q))
        self.assertTrue(is_finer(p, joined) and is_finer(q, joined))
        return joined

    def test_all_small_partitions(self):
        for count in range(1, 6):
            rows = every_partition(count)
            for p in rows:
                for q in rows:
                    joined = self.check(p, q)
                    self.assertEqual(joined, finest_of([row for row in rows if is_finer(p, row) and is_finer(q, row)]))

    def test_up_to_forty_numbers(self):
        random = Random(135)
        for _ in range(300):
            count = random.randint(1, 40)
            most = random.randint(1, count)
            p, q = (renumbered([random.randrange(most) for _ in range(count)]) for _ in range(2))
            joined = self.check(p, q)
            # Each pair in one block of the join is joined by steps within the blocks of both.
            edges = together(p) | together(q)
            group = [0]
            for here in group:
                group.extend(there for there in range(count)
                             if there not in group and ((here, there) in edges or (there, here) in edges))
            self.assertEqual(sorted(group), [number for number in range(count) if joined[number] == 0])

    def test_chains(self):
        # Blocks that are joined only through all others.
        p = tuple(at // 2 for at in range(40))
        q = tuple((at + 1) // 2 for at in range(40))
        self.assertEqual(join_of(p, q), (0,) * 40)
        self.assertEqual(meet_of(p, q), tuple(range(40)))
        self.assertEqual(join_of((0, 1, 2, 0), (0, 1, 1, 2)), (0, 1, 1, 0))
        self.assertEqual(join_of((0, 1, 2, 3), (0, 1, 2, 1)), (0, 1, 2, 1))
        self.assertEqual(meet_of((0, 0, 1, 1), (0, 1, 1, 1)), (0, 1, 2, 2))


class QuotientTest(unittest.TestCase):
    def test_all_congruences(self):
        for machine in list(machines())[::2]:
            for start in range(len(machine[0])):
                for good in ((), (0,), tuple(range(len(machine[0])))):
                    moved = (machine[0], start, good)
                    for row in all_congruences(machine)[::3]:
                        steps, origin, left = quotient(moved, row)
                        self.assertEqual(len(steps), max(row) + 1)
                        self.assertEqual((origin, left), (row[start], ()))
                        for state, block in enumerate(row):
                            self.assertEqual(steps[block], tuple(row[there] for there in machine[0][state]))
                        self.assertEqual(make_machine([list(each) for each in steps], origin, []), (steps, origin, left))

    def test_small(self):
        machine = make_machine([[1, 0], [2, 1], [3, 2], [0, 3]], 3, [1, 2])
        self.assertEqual(quotient(machine, (0, 1, 0, 1)), (((1, 0), (0, 1)), 1, ()))
        self.assertEqual(quotient(machine, (0, 1, 2, 3)), (machine[0], 3, ()))
        self.assertEqual(quotient(machine, (0, 0, 0, 0)), (((0, 0),), 0, ()))


class PartingTest(unittest.TestCase):
    def test_against_all_partitions(self):
        parted = 0
        for machine in machines():
            finest = tuple(range(len(machine[0])))
            coarser = [row for row in all_congruences(machine) if row != finest]
            pairs = [(p, q) for p in coarser for q in coarser if not together(p) & together(q)]
            bound = [pair for pair in sorted(together((0,) * len(finest)))
                     if all(pair in together(row) for row in coarser)]
            told, least_bound = parting(machine), bound_pair(machine)
            with self.subTest(machine):
                self.assertEqual(least_bound, bound[0] if bound else None)
                if pairs:
                    self.assertIsInstance(told, tuple)
                    self.assertIn(told, pairs)
                    parted += 1
                else:
                    self.assertIsNone(told)
                if len(finest) > 1:
                    self.assertEqual(told is None, least_bound is not None)
                else:
                    self.assertEqual((told, least_bound), (None, None))
        self.assertGreater(parted, 20)

    def test_small(self):
        self.assertEqual(bound_pair(wheel_machine(4)), (0, 2))
        self.assertIsNone(parting(wheel_machine(4)))
        self.assertEqual(bound_pair(wheel_machine(2)), (0, 1))
        self.assertEqual(bound_pair(wheel_machine(5)), (0, 1))
        self.assertIsNone(bound_pair(wheel_machine(6)))
        self.assertEqual(sorted(parting(wheel_machine(6))), [(0, 1, 0, 1, 0, 1), (0, 1, 2, 0, 1, 2)])
        self.assertEqual((parting(wheel_machine(1)), bound_pair(wheel_machine(1))), (None, None))
        self.assertIsNone(bound_pair(make_machine([[0], [1], [2]], 0, [])))


if __name__ == "__main__":
    unittest.main()
