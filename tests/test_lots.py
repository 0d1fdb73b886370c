"""Points 7 and 8, and the interface of lots.py."""

import unittest

from turnsandthrows.lots import lead_lot, leading_word, lots, permutations_at
from turnsandthrows.machines import letters_of, make_machine

from tests.tools import all_that_words_do, every_lot, every_machine, every_word, in_order, random_machines, run


def to_lot(row, lot):
    """The lot to which the lot is led by a word that leads all states to the row."""
    return tuple(sorted({row[state] for state in lot}))


def machines():
    """Machines of 1 to 6 states."""
    yield from every_machine(1, 2)
    yield from list(every_machine(2, 2))[::4]
    yield from random_machines(11, 60, 6, 3)
    for count in range(1, 7):
        yield make_machine([[(state + 1) % count] for state in range(count)], 0, [])
        yield make_machine([[min(state + 1, count - 1), 0] for state in range(count)], 0, [])


class LeadLotTest(unittest.TestCase):
    def test_any_lot(self):
        for machine in random_machines(12, 40, 6, 3):
            for lot in every_lot(len(machine[0])):
                for word in every_word(letters_of(machine), 3):
                    there = tuple(sorted({run(machine, state, word) for state in lot}))
                    self.assertEqual(lead_lot(machine, lot, word), there)

    def test_empty_word(self):
        machine = make_machine([[1], [2], [0]], 0, [])
        for lot in every_lot(3):
            self.assertEqual(lead_lot(machine, lot, ""), lot)

    def test_many_letters(self):
        machine = make_machine([[(state + 1) % 6, state, min(state, 3)] for state in range(6)], 0, [])
        for word in ("a" * 4000, "ab" * 2000, "b" * 4000, "aab" * 1333 + "c"):
            for lot in every_lot(6):
                there = tuple(sorted({run(machine, state, word) for state in lot}))
                self.assertEqual(lead_lot(machine, lot, word), there)

    def test_a_tuple_in_ascending_order(self):
        machine = make_machine([[5], [4], [3], [3], [1], [0]], 0, [])
        self.assertEqual(lead_lot(machine, (0, 1, 2, 3), "a"), (3, 4, 5))
        self.assertIs(type(lead_lot(machine, (0, 1, 2, 3), "a")), tuple)


class LotsTest(unittest.TestCase):
    def test_against_all_that_words_do(self):
        for machine in machines():
            states = range(len(machine[0]))
            expected = {to_lot(row, states) for row in all_that_words_do(machine)} | {(state,) for state in states}
            self.assertEqual(lots(machine), sorted(expected, key=lambda lot: (-len(lot), lot)))

    def test_a_list_of_its_own(self):
        machine = make_machine([[1, 0], [2, 0], [0, 2]], 0, [])
        found = lots(machine)
        found.clear()
        self.assertEqual(len(lots(machine)), 7)

    def test_start_and_good_states_do_not_matter(self):
        steps = [[1, 0], [2, 0], [0, 2]]
        for start in range(3):
            self.assertEqual(lots(make_machine(steps, start, [start])), lots(make_machine(steps, 0, [])))

    def test_one_state_and_permutations(self):
        self.assertEqual(lots(make_machine([[0]], 0, [])), [(0,)])
        self.assertEqual(lots(make_machine([[1], [2], [0]], 0, [])), [(0, 1, 2), (0,), (1,), (2,)])

    def test_example(self):
        machine = make_machine([[1, 0], [2, 0], [0, 2]], 0, [])
        self.assertEqual(lots(machine), [(0, 1, 2), (0, 1), (0, 2), (1, 2), (0,), (1,), (2,)])


class LeadingWordTest(unittest.TestCase):
    def test_against_all_that_words_do(self):
        for machine in random_machines(13, 30, 4, 3):
            done = all_that_words_do(machine)
            for first in every_lot(len(machine[0])):
                for second in every_lot(len(machine[0])):
                    words = in_order([word for row, word in done.items() if to_lot(row, first) == second])
                    expected = words[0] if words else None
                    self.assertEqual(leading_word(machine, first, second), expected)

    def test_six_states(self):
        for machine in random_machines(14, 6, 6, 2):
            done = all_that_words_do(machine)
            for first in every_lot(len(machine[0]))[::5]:
                least = {}
                for row, word in done.items():
                    there = to_lot(row, first)
                    least[there] = min(word, least.get(there, word), key=lambda word: (len(word), word))
                for second in every_lot(len(machine[0])):
                    self.assertEqual(leading_word(machine, first, second), least.get(second))

    def test_same_lot(self):
        machine = make_machine([[1, 0], [2, 0], [0, 2]], 0, [])
        for lot in every_lot(3):
            self.assertEqual(leading_word(machine, lot, lot), "")

    def test_no_lot_of_the_machine(self):
        machine = make_machine([[1], [2], [3], [0]], 0, [])
        self.assertEqual(leading_word(machine, (0, 2), (1, 3)), "a")
        self.assertEqual(leading_word(machine, (0, 1), (0, 3)), "aaa")

    def test_none(self):
        machine = make_machine([[1], [2], [3], [0]], 0, [])
        self.assertIsNone(leading_word(machine, (0, 1), (0, 2)))
        self.assertIsNone(leading_word(machine, (0,), (0, 1, 2, 3)))
        self.assertIsNone(leading_word(machine, (0, 1, 2, 3), (0,)))

    def test_example(self):
        machine = make_machine([[1, 0], [2, 0], [0, 2]], 0, [])
        self.assertEqual(leading_word(machine, (0, 1, 2), (0, 1)), "ba")


class PermutationsAtTest(unittest.TestCase):
    def test_against_all_that_words_do(self):
        for machine in [*machines(), *random_machines(15, 15, 5, 3)]:
            done = all_that_words_do(machine)
            for lot in every_lot(len(machine[0])):
                expected = {tuple(row[s] for s in lot) for row in done if to_lot(row, lot) == lot}
                found = permutations_at(machine, lot)
                self.assertEqual(found, sorted(expected))
                self.assertIn(lot, found)

    def test_no_lot_of_the_machine(self):
        machine = make_machine([[1, 1], [0, 1], [3, 2], [2, 3]], 0, [])
        self.assertNotIn((1, 3), lots(machine))
        self.assertEqual(permutations_at(machine, (1, 3)), [(1, 3)])
        self.assertEqual(permutations_at(machine, (2, 3)), [(2, 3), (3, 2)])

    def test_all_permutations_of_six_states(self):
        machine = make_machine([[1, 1], [2, 0], [3, 2], [4, 3], [5, 4], [0, 5]], 0, [])
        found = permutations_at(machine, (0, 1, 2, 3, 4, 5))
        self.assertEqual(len(found), 720)
        self.assertEqual(found, sorted(set(found)))
        found.clear()
        self.assertEqual(len(permutations_at(machine, (0, 1, 2, 3, 4, 5))), 720)


if __name__ == "__main__":
    unittest.main()
