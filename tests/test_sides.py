"""Point 39, and the interface of sides.py."""

import unittest
from itertools import combinations

from turnsandthrows.cascade import Cascade
from turnsandthrows.congruences import parting, quotient
from turnsandthrows.decomposing import decompose
from turnsandthrows.judging import first_fault
from turnsandthrows.machines import make_machine
from turnsandthrows.sides import side_by_side

from tests.cascades import all_faults, columns_machine, follows, parts_of, stirred
from tests.partitions import all_congruences, machines, together
from tests.tools import every_word, wheel_machine


def pairs_to_take():
    """Machines, each with two congruences whose meet is the finest partition."""
    for machine in machines():
        found = all_congruences(machine)[:12] + all_congruences(machine)[-1:]
        pairs = [(p, q) for p in found for q in found if not together(p) & together(q)]
        if parting(machine) is not None:
            pairs.append(parting(machine))
        for p, q in pairs[:2] + pairs[-2:]:
            yield machine, p, q


def wanted(machine, p, first, q, second):
    """The widths, the acts and the shown rows of point 39, each row and level for itself."""
    shown = {}
    for left, one in first.shown.items():
        for right, other in second.shown.items():
            states = [state for state in range(len(p)) if (p[state], q[state]) == (one, other)]
            if states:
                shown[left + right] = states[0]
    many = len(first.widths)
    acts = [{} for _ in range(many + len(second.widths))]
    for row in shown:
        for letter in "abcd"[:len(machine[0][0])]:
            for level in range(len(acts)):
                if level < many:
                    acts[level][row[:level], letter] = first.acts[level][row[:level], letter]
                else:
                    acts[level][row[:level], letter] = second.acts[level - many][row[many:level], letter]
    return first.widths + second.widths, tuple(acts), shown


class SideBySideTest(unittest.TestCase):
    def check(self, machine, p, first, q, second):
        """The cascade must be right, and be that of point 39; the two others stay as they are."""
        before = parts_of(first), parts_of(second)
        told = side_by_side(machine, p, first, q, second)
        self.assertIsInstance(told, Cascade)
        self.assertEqual((told.widths, told.acts, told.shown), wanted(machine, p, first, q, second))
        self.assertIsNone(first_fault(machine, told))
        self.assertEqual((parts_of(first), parts_of(second)), before)
        return told

    def test_cascades_of_decompose(self):
        count = 0
        for machine, p, q in pairs_to_take():
            first, second = decompose(quotient(machine, p)), decompose(quotient(machine, q))
            if len(first.shown) * len(second.shown) > 3000:
                continue
            count += 1
            with self.subTest(machine, p=p, q=q):
                told = self.check(machine, p, first, q, second)
                if count % 8 == 0:
                    self.assertEqual(all_faults(machine, told), [])
                    self.assertTrue(follows(machine, told, every_word("abc"[:len(machine[0][0])], 2)))
        self.assertGreater(count, 200)

    def test_acts_that_are_not_needed(self):
        for machine, p, q in list(pairs_to_take())[::4]:
            first, second = decompose(quotient(machine, p)), decompose(quotient(machine, q))
            if len(first.shown) * len(second.shown) > 500:
                continue
            self.check(machine, p, stirred(quotient(machine, p), first), q, stirred(quotient(machine, q), second))

    def test_blocks_without_a_state_in_common(self):
        # Three states in two and two blocks: the blocks 1 and 1 have no state in common.
        machine = make_machine([[0, 0], [1, 1], [2, 0]], 0, [])
        p, q = (0, 0, 1), (0, 1, 0)
        told = self.check(machine, p, decompose(quotient(machine, p)), q, decompose(quotient(machine, q)))
        self.assertEqual(told.shown, {(0, 0): 0, (0, 1): 1, (1, 0): 2})
        self.assertEqual(sorted({prefix for prefix, _ in told.acts[1]}), [(0,), (1,)])

    def test_several_rows_for_a_state(self):
        still = make_machine([[0], [1]], 0, [])
        first = Cascade([2, 2], [{((), "a"): (0, 1)}, {((0,), "a"): (0, 1), ((1,), "a"): (1, 1)}],
                        {(0, 0): 0, (0, 1): 0, (1, 1): 1})
        second = Cascade([], [], {(): 0})
        self.assertIsNone(first_fault(still, first))
        one = quotient(still, (0, 0))
        self.assertIsNone(first_fault(one, second))
        told = self.check(still, (0, 1), first, (0, 0), second)
        self.assertEqual(told.shown, {(0, 0): 0, (0, 1): 0, (1, 1): 1})
        told = self.check(still, (0, 0), second, (0, 1), first)
        self.assertEqual(told.widths, (2, 2))

    def test_no_levels_on_both_sides(self):
        machine = make_machine([[0, 0]], 0, [])
        empty = Cascade([], [], {(): 0})
        told = self.check(machine, (0,), empty, (0,), empty)
        self.assertEqual((told.widths, told.acts, told.shown), ((), (), {(): 0}))

    def test_prefixes_that_no_shown_row_of_both_has(self):
        # Rows of the first that show a block are not shown if no row of the second goes with them.
        machine = wheel_machine(6, 2)
        p, q = (0, 1, 0, 1, 0, 1), (0, 1, 2, 0, 1, 2)
        told = self.check(machine, p, decompose(quotient(machine, p)), q, decompose(quotient(machine, q)))
        self.assertEqual(len(told.shown), 6)

    def test_eighty_levels_and_many_rows(self):
        # Levels that do nothing behind levels that count.
        machine = columns_machine([(1, 2, 0, 4, 5, 3), (3, 4, 5, 0, 1, 2)])
        p, q = (0, 0, 0, 1, 1, 1), (0, 1, 2, 0, 1, 2)
        first, second = (self.widened(quotient(machine, row), 39) for row in (p, q))
        told = self.check(machine, p, first, q, second)
        self.assertEqual(len(told.widths), 80)
        self.assertGreater(len(told.shown), 1500)

    def widened(self, machine, count):
        """A right cascade with so many idle levels behind one that keeps the state, and rows that differ there."""
        states = len(machine[0])
        shown = {(state, *tail): state for state in range(states) for tail in self.tails(count)}
        acts = [{((), letter): tuple(row[at] for row in machine[0]) for at, letter in enumerate("ab")}]
        for level in range(1, count + 1):
            prefixes = sorted({row[:level] for row in shown})
            acts.append({(prefix, letter): (0, 1) for prefix in prefixes for letter in "ab"})
        return Cascade([states] + [2] * count, acts, shown)

    def tails(self, count):
        """Rows of zeros with at most one 1 among the first 16."""
        zeros = [0] * count
        yield tuple(zeros)
        for at in range(16):
            yield tuple(zeros[:at] + [1] + zeros[at + 1:])


class WordsTest(unittest.TestCase):
    def test_rows_follow_the_machine(self):
        machine = wheel_machine(6)
        p, q = parting(machine)
        told = side_by_side(machine, p, decompose(quotient(machine, p)), q, decompose(quotient(machine, q)))
        for one, other in combinations(range(6), 2):
            row = told.rows_of(one)[0]
            self.assertEqual(told.shown[told.run(row, "a" * ((other - one) % 6))], other)


if __name__ == "__main__":
    unittest.main()
