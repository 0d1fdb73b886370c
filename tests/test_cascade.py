"""Points 2 and 13 to 15, and the interface of cascade.py."""

import unittest
from itertools import product

from turnsandthrows.cascade import Cascade
from turnsandthrows.decomposing import decompose

from tests.cascades import follows, mixed_machines
from tests.tools import every_word


def two_levels():
    """What a cascade of two levels is made of, whose second level depends on the first one."""
    acts = [
        {((), "a"): (1, 0), ((), "b"): (1, 1)},
        {((0,), "a"): (1, 2, 0), ((1,), "a"): (2, 2, 2), ((0,), "b"): (0, 1, 2)},
    ]
    return [2, 3], acts, {(0, 0): 5, (1, 2): -7, (0, 2): 5, (0, 1): 5}


class MadeTest(unittest.TestCase):
    def test_attributes_and_their_kinds(self):
        widths, acts, shown = two_levels()
        cascade = Cascade(widths, acts, shown)
        self.assertEqual((cascade.widths, cascade.acts, cascade.shown), ((2, 3), tuple(acts), shown))
        kinds = [type(each) for each in (cascade.widths, cascade.acts, *cascade.acts, cascade.shown)]
        self.assertEqual(kinds, [tuple, tuple, dict, dict, dict])

    def test_later_changes_to_what_was_handed_in(self):
        widths, acts, shown = two_levels()
        cascade = Cascade(widths, acts, shown)
        widths[0] = 64
        widths.append(3)
        acts[0][(), "a"] = (0, 0)
        acts[1].clear()
        acts.append({})
        shown[0, 0] = 1
        shown[1, 0] = 5
        widths, acts, shown = two_levels()
        self.assertEqual((cascade.widths, cascade.acts, cascade.shown), ((2, 3), tuple(acts), shown))
        self.assertEqual(cascade.step((0, 0), "a"), (1, 1))
        self.assertEqual(cascade.rows_of(5), [(0, 0), (0, 1), (0, 2)])

    def test_what_is_handed_in_stays(self):
        widths, acts, shown = two_levels()
        cascade = Cascade(widths, acts, shown)
        cascade.run((0, 0), "abab")
        cascade.rows_of(5)
        self.assertEqual((widths, acts, shown), two_levels())

    def test_one_dict_for_several_levels(self):
        table = {}
        cascade = Cascade([1, 1], [table, table], {})
        self.assertIsNot(cascade.acts[0], table)
        self.assertIsNot(cascade.acts[0], cascade.acts[1])

    def test_nothing_is_checked(self):
        cascade = Cascade([1], [{((), "d"): (0,)}], {(-3,): 99, (10 ** 20,): -1})
        self.assertEqual(cascade.shown, {(-3,): 99, (10 ** 20,): -1})

    def test_no_levels(self):
        cascade = Cascade([], [], {(): 3})
        self.assertEqual((cascade.widths, cascade.acts, cascade.shown), ((), (), {(): 3}))
        self.assertEqual([cascade.step((), letter) for letter in "abcd"], [()] * 4)
        self.assertEqual(cascade.run((), "abcd" * 1000), ())
        self.assertEqual((cascade.rows_of(3), cascade.rows_of(0)), ([()], []))


class StepTest(unittest.TestCase):
    def setUp(self):
        self.cascade = Cascade(*two_levels())

    def test_all_levels_at_once(self):
        # The second level goes by the place that the first one had, not by the one that it gets.
        self.assertEqual(self.cascade.step((0, 0), "a"), (1, 1))
        self.assertEqual(self.cascade.step((0, 2), "a"), (1, 0))
        self.assertEqual(self.cascade.step((1, 0), "a"), (0, 2))
        self.assertEqual(self.cascade.step((0, 1), "b"), (1, 1))
        self.assertIs(type(self.cascade.step((0, 0), "a")), tuple)

    def test_three_levels(self):
        acts = [{}, {}, {}]
        for level, table in enumerate(acts):
            for prefix in product(range(2), repeat=level):
                # A counter: a level turns if all before it are 1.
                table[prefix, "a"] = (1, 0) if all(prefix) else (0, 1)
        cascade = Cascade([2, 2, 2], acts, {})
        for number in range(8):
            row, there = ([(n >> k) & 1 for k in range(3)] for n in (number, (number + 1) % 8))
            self.assertEqual(cascade.step(tuple(row), "a"), tuple(there))

    def test_missing_acts(self):
        for row in product(range(2), range(3)):
            self.assertIsNone(self.cascade.step(row, "c"))
        for place in range(3):
            self.assertIsNone(self.cascade.step((1, place), "b"))
        self.assertIsNone(Cascade([2], [{}], {(0,): 0}).step((0,), "a"))

    def test_places_that_a_level_does_not_have(self):
        for place in (-1, -2, 2, 3, 64, -10 ** 20, 10 ** 20):
            self.assertIsNone(self.cascade.step((place, 0), "a"))
        for place in (-1, -3, 3, 4, 64):
            self.assertIsNone(self.cascade.step((0, place), "a"))

    def test_places_that_a_level_does_not_have_where_acts_are(self):
        acts = [{((), "a"): (1, 0)}, {((place,), "a"): (0, 1) for place in range(-5, 6)}]
        cascade = Cascade([2, 2], acts, {(-1, 0): 0, (2, 0): 0})
        for place in (-5, -2, -1, 2, 5):
            self.assertIsNone(cascade.step((place, 0), "a"))
            self.assertIsNone(cascade.step((0, place), "a"))
        self.assertEqual(cascade.step((1, 1), "a"), (0, 1))

    def test_rows_that_are_not_shown(self):
        self.assertNotIn((1, 0), self.cascade.shown)
        self.assertEqual(self.cascade.step((1, 0), "a"), (0, 2))


class RunTest(unittest.TestCase):
    def test_letter_by_letter(self):
        cascade = Cascade(*two_levels())
        for row in product(range(-1, 3), range(-1, 4)):
            for word in every_word("abc", 4):
                there = row
                for letter in word:
                    there = None if there is None else cascade.step(there, letter)
                self.assertEqual(cascade.run(row, word), there)

    def test_empty_word(self):
        cascade = Cascade(*two_levels())
        for row in ((0, 0), (1, 2), (-1, 7)):
            self.assertEqual(cascade.run(row, ""), row)

    def test_nowhere(self):
        cascade = Cascade(*two_levels())
        self.assertEqual(cascade.run((0, 0), "b"), (1, 0))
        for word in ("bb", "bba", "c", "caaa", "a" * 200 + "c" + "a" * 200):
            self.assertIsNone(cascade.run((0, 0), word))

    def test_long_words(self):
        cascade = Cascade([7], [{((), "a"): (1, 2, 3, 4, 5, 6, 0)}], {})
        self.assertEqual(cascade.run((0,), "a" * 4000), (4000 % 7,))

    def test_rows_of_right_cascades_follow_their_states(self):
        for machine in mixed_machines(71, 12, 4):
            words = every_word("abc"[:len(machine[0][0])], 4)
            self.assertTrue(follows(machine, decompose(machine), words))


class RowsOfTest(unittest.TestCase):
    def test_ascending(self):
        cascade = Cascade(*two_levels())
        self.assertEqual(cascade.rows_of(5), [(0, 0), (0, 1), (0, 2)])
        self.assertEqual(cascade.rows_of(-7), [(1, 2)])
        shown = {(9, 1): 0, (-9, 1): 0, (10, 0): 0, (2, -1): 1, (2, 1): 0}
        self.assertEqual(Cascade([1, 1], [{}, {}], shown).rows_of(0), [(-9, 1), (2, 1), (9, 1), (10, 0)])

    def test_states_that_are_not_shown(self):
        self.assertEqual([Cascade(*two_levels()).rows_of(state) for state in (0, 1, -1, 7, 40)], [[]] * 5)
        self.assertEqual(Cascade([2], [{}], {}).rows_of(0), [])

    def test_a_list_of_its_own(self):
        cascade = Cascade(*two_levels())
        rows = cascade.rows_of(5)
        rows.clear()
        self.assertEqual(cascade.rows_of(5), [(0, 0), (0, 1), (0, 2)])
        self.assertEqual(len(cascade.shown), 4)


if __name__ == "__main__":
    unittest.main()
