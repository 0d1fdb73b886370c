"""Points 9 and 10, and the interface of groups.py."""

import unittest
from itertools import permutations

from turnsandthrows.groups import factors, is_group, is_simple, normal_part, row_of_parts
from turnsandthrows.permutations import generated

from tests.tools import closure, first_then, normal_closure, swap, way_back, wheel


def mirrors(size):
    """The turns and mirrors of a figure with so many corners."""
    return generated(size, [wheel(size), tuple(range(size))[::-1]])


def side_by_side(first, second):
    """The group that does an element of each of two groups on places of its own."""
    width = len(first[0])
    return sorted(p + tuple(width + i for i in q) for p in first for q in second)


def every(places):
    """All permutations of so many places."""
    return list(permutations(range(places)))


EVEN_5 = generated(5, [(1, 2, 0, 3, 4), wheel(5)])
SQUARES = generated(4, [(1, 0, 3, 2), (2, 3, 0, 1)])
QUATERNIONS = generated(8, [(1, 2, 3, 0, 5, 6, 7, 4), (4, 7, 6, 5, 2, 1, 0, 3)])
# The seven lines of the plane with seven points, and what keeps them together.
LINES = [{at, (at + 1) % 7, (at + 3) % 7} for at in range(7)]
PLANE = [p for p in permutations(range(7)) if all({p[i] for i in line} in LINES for line in LINES)]

FACTORS = [
    ("one place", [(0,)], []),
    ("one element", [tuple(range(7))], []),
    ("wheel of 2", generated(2, [wheel(2)]), [2]),
    ("wheel of 5", generated(5, [wheel(5)]), [5]),
    ("wheel of 6", generated(6, [wheel(6)]), [3, 2]),
    ("wheel of 8", generated(8, [wheel(8)]), [2, 2, 2]),
    ("wheel of 64", generated(64, [wheel(64)]), [2] * 6),
    ("wheel of 61", generated(61, [wheel(61)]), [61]),
    ("wheels of 660", generated(23, [wheel(4, 3, 5, 11)]), [11, 5, 3, 2, 2]),
    ("mirrors of 3", mirrors(3), [3, 2]),
    ("mirrors of 4", mirrors(4), [2, 2, 2]),
    ("mirrors of 5", mirrors(5), [5, 2]),
    ("mirrors of 12", mirrors(12), [3, 2, 2, 2]),
    ("mirrors of 15", mirrors(15), [5, 3, 2]),
    ("squares", SQUARES, [2, 2]),
    ("all of 2", every(2), [2]),
    ("all of 3", every(3), [3, 2]),
    ("all of 4", every(4), [3, 2, 2, 2]),
    ("all of 5", every(5), [60, 2]),
    ("even ones of 4", generated(4, [(1, 2, 0, 3), (0, 2, 3, 1)]), [3, 2, 2]),
    ("even ones of 5", EVEN_5, [60]),
    ("swaps", generated(18, [swap(18, 2 * at, 2 * at + 1) for at in range(9)]), [2] * 9),
    ("even ones of 5 and a wheel", side_by_side(EVEN_5, generated(7, [wheel(3, 4)])), [60, 3, 2, 2]),
    ("even ones of 5 and of 4", side_by_side(EVEN_5, generated(4, [(1, 2, 0, 3), (0, 2, 3, 1)])), [60, 3, 2, 2]),
    ("quaternions", QUATERNIONS, [2, 2, 2]),
    ("plane", PLANE, [168]),
]


class IsGroupTest(unittest.TestCase):
    def test_groups(self):
        for name, group, _ in FACTORS:
            with self.subTest(name):
                self.assertIs(is_group(group), True)
        self.assertIs(is_group(every(6)), True)

    def test_not_ascending(self):
        self.assertIs(is_group([(1, 0), (0, 1)]), False)
        self.assertIs(is_group(every(3)[::-1]), False)
        group = generated(5, [wheel(5)])
        self.assertIs(is_group([group[0], group[2], group[1], group[3], group[4]]), False)

    def test_one_twice(self):
        self.assertIs(is_group([(0,), (0,)]), False)
        self.assertIs(is_group([(0, 1), (0, 1), (1, 0)]), False)
        self.assertIs(is_group(sorted(every(4) + [(3, 2, 1, 0)])), False)

    def test_one_missing(self):
        for name, group, _ in FACTORS[2:]:
            if len(group) > 2:
                for at in {0, 1, len(group) // 2, len(group) - 1}:
                    with self.subTest(name, at=at):
                        self.assertIs(is_group(group[:at] + group[at + 1:]), False)

    def test_not_closed(self):
        self.assertIs(is_group([(0, 1, 2), (0, 2, 1), (1, 0, 2)]), False)
        self.assertIs(is_group([(0, 1, 2), (1, 2, 0)]), False)
        self.assertIs(is_group([(0, 1, 2, 3), (1, 0, 2, 3), (1, 0, 3, 2), (0, 2, 1, 3)]), False)

    def test_all_sorted_lists_of_three_places(self):
        for marks in range(1, 64):
            chosen = [p for at, p in enumerate(every(3)) if marks >> at & 1]
            expected = all(first_then(p, q) in chosen for p in chosen for q in chosen)
            self.assertIs(is_group(chosen), expected)

    def test_without_the_one_that_leads_to_itself(self):
        self.assertIs(is_group([(1, 0)]), False)
        self.assertIs(is_group([(1, 2, 0), (2, 0, 1)]), False)

    def test_a_thousand_entries(self):
        swaps = [swap(64, 2 * at, 2 * at + 1) for at in range(32)]
        sums = generated(64, swaps[:9])
        self.assertIs(is_group(sums), True)
        self.assertIs(is_group((sums * 2)[:1000]), False)
        self.assertIs(is_group(sorted(every(7)[:1000])), False)
        self.assertIs(is_group(sorted([tuple(range(64)), wheel(64), *swaps])), False)

    def test_the_list_stays(self):
        group = [(1, 0), (0, 1), (0, 1)]
        self.assertIs(is_group(group), False)
        self.assertEqual(group, [(1, 0), (0, 1), (0, 1)])


class PartsTest(unittest.TestCase):
    def check_next(self, group, part):
        """The part is normal, smaller, and no normal part lies between them."""
        self.assertEqual(part, sorted(closure(len(group[0]), part)))
        self.assertLess(len(part), len(group))
        self.assertEqual(set(part), normal_closure(group, part))
        times = len(group) // len(part)
        if any(times % d == 0 for d in range(2, times)):
            self.check_nothing_between(group, part)

    def check_nothing_between(self, group, part):
        """Each element that is not in the part makes it grow to the whole group."""
        seen = set(part)
        for element in group:
            if element not in seen:
                self.assertEqual(len(normal_closure(group, [*part, element])), len(group))
                turned = {first_then(first_then(way_back(g), element), g) for g in group}
                seen |= {first_then(p, small) for p in turned for small in part}

    def test_factors(self):
        for name, group, expected in FACTORS:
            with self.subTest(name):
                before = list(group)
                self.assertEqual(factors(group), expected)
                self.assertEqual(group, before)

    def test_greater_simple_parts(self):
        self.assertEqual(factors(every(6)), [360, 2])
        even = generated(6, [(1, 2, 0, 3, 4, 5), (0, 2, 3, 4, 5, 1)])
        self.assertEqual((len(even), factors(even), is_simple(even)), (360, [360], True))

    def test_rows(self):
        for name, group, expected in FACTORS:
            with self.subTest(name):
                before = list(group)
                row = row_of_parts(group)
                self.assertEqual(row[0], group)
                self.assertEqual(row[-1], [tuple(range(len(group[0])))])
                sizes = [len(part) for part in row]
                self.assertEqual(sorted((a // b for a, b in zip(sizes, sizes[1:])), reverse=True), expected)
                for part, below in zip(row, row[1:]):
                    self.check_next(part, below)
                for part in row:
                    part.clear()
                self.assertEqual(group, before)

    def test_simple(self):
        for name, group, expected in FACTORS:
            with self.subTest(name):
                before = list(group)
                self.assertIs(is_simple(group), len(expected) == 1)
                self.assertEqual(group, before)

    def test_one_element(self):
        for places in (1, 2, 64):
            group = [tuple(range(places))]
            self.assertIs(is_simple(group), False)
            self.assertEqual(factors(group), [])
            self.assertEqual(row_of_parts(group), [group])
            self.assertEqual(normal_part(group, group[0]), group)

    def test_example(self):
        self.assertEqual(factors(generated(4, [(1, 2, 3, 0), (1, 0, 2, 3)])), [3, 2, 2, 2])


class NormalPartTest(unittest.TestCase):
    def test_against_closure(self):
        for name, group, _ in FACTORS:
            for element in group if len(group) <= 24 else group[::len(group) // 6]:
                with self.subTest(name, element=element):
                    before = list(group)
                    part = normal_part(group, element)
                    self.assertEqual(part, sorted(normal_closure(group, [element])))
                    self.assertEqual(group, before)

    def test_written_out(self):
        self.assertEqual(normal_part(every(4), (1, 0, 3, 2)), SQUARES)
        self.assertEqual(normal_part(every(5), (1, 2, 0, 3, 4)), EVEN_5)
        self.assertEqual(normal_part(every(5), (1, 0, 2, 3, 4)), every(5))
        self.assertEqual(normal_part(every(3), (0, 1, 2)), [(0, 1, 2)])
        self.assertEqual(normal_part(mirrors(4), (2, 3, 0, 1)), [(0, 1, 2, 3), (2, 3, 0, 1)])

    def test_all_of_six_places(self):
        self.assertEqual(normal_part(every(6), swap(6, 2, 4)), every(6))
        self.assertEqual(len(normal_part(every(6), (1, 2, 0, 3, 4, 5))), 360)


if __name__ == "__main__":
    unittest.main()
