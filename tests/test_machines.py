"""Points 3, 4 and 5, and the interface of machines.py."""

import copy
import unittest
from itertools import product

from turnsandthrows.errors import InvalidMachine
from turnsandthrows.machines import accepts, lead, letters_of, make_machine, words_upto

from tests.tools import every_machine, every_word, in_order, random_machines, run


class MakeMachineTest(unittest.TestCase):
    def refuse(self, steps, start, good):
        with self.assertRaises(InvalidMachine):
            make_machine(steps, start, good)

    def test_tuple(self):
        machine = make_machine([[1, 0], [2, 0], [2, 1]], 1, [2])
        self.assertEqual(machine, (((1, 0), (2, 0), (2, 1)), 1, (2,)))
        self.assertIs(type(machine), tuple)
        self.assertIs(type(machine[0]), tuple)
        self.assertEqual([type(row) for row in machine[0]], [tuple] * 3)
        self.assertIs(type(machine[2]), tuple)

    def test_good_states_once_and_ascending(self):
        rows = [[0], [1], [2], [3], [4], [5], [6], [7], [8], [9], [10]]
        self.assertEqual(make_machine(rows, 3, [10, 2, 9, 2, 10, 0])[2], (0, 2, 9, 10))
        self.assertEqual(make_machine(rows, 3, [])[2], ())

    def test_sizes(self):
        self.assertEqual(make_machine([[0]], 0, []), (((0,),), 0, ()))
        self.assertEqual(make_machine([[0, 0, 0, 0]], 0, [0]), (((0, 0, 0, 0),), 0, (0,)))
        forty = make_machine([[39, 0, 1, 2]] * 40, 39, [39, 0])
        self.assertEqual(forty, (((39, 0, 1, 2),) * 40, 39, (0, 39)))

    def test_wrong_sizes(self):
        self.refuse([], 0, [])
        self.refuse([[0]] * 41, 0, [])
        self.refuse([[]], 0, [])
        self.refuse([[], []], 0, [])
        self.refuse([[0, 0, 0, 0, 0]], 0, [])
        self.refuse([[1, 0], [2]], 0, [])
        self.refuse([[0], [0, 0]], 0, [])
        self.refuse([[0, 0], [0, 0], []], 0, [])
        self.refuse([[0, 0, 0, 0], [0, 0, 0, 0, 0]], 0, [])

    def test_what_is_no_state(self):
        for wrong in (-1, 2, 3, 40, -2):
            for row, at in product((0, 1), (0, 1)):
                steps = [[0, 1], [1, 0]]
                steps[row][at] = wrong
                self.refuse(steps, 0, [])
            self.refuse([[0, 1], [1, 0]], wrong, [])
            self.refuse([[0, 1], [1, 0]], 0, [wrong])
            self.refuse([[0, 1], [1, 0]], 0, [0, wrong, 1])

    def test_arguments_stay_and_are_not_kept(self):
        steps, good = [[1, 0], [0, 1]], [1, 0, 1]
        before = copy.deepcopy((steps, good))
        machine = make_machine(steps, 1, good)
        self.assertEqual((steps, good), before)
        steps[0][0] = 0
        steps.append([0, 0])
        good.clear()
        self.assertEqual(machine, (((1, 0), (0, 1)), 1, (0, 1)))

    def test_arguments_stay_when_refused(self):
        steps, good = [[1, 0], [0, 2]], [1, 0, 1]
        self.refuse(steps, 1, good)
        self.assertEqual((steps, good), ([[1, 0], [0, 2]], [1, 0, 1]))


class LeadTest(unittest.TestCase):
    def test_letters_of(self):
        for count, letters in ((1, "a"), (2, "ab"), (3, "abc"), (4, "abcd")):
            self.assertEqual(letters_of((((0,) * count,), 0, ())), letters)
            self.assertEqual(letters_of((((0,) * count,) * 3, 0, (1,))), letters)

    def test_lead_and_accepts_from_each_state(self):
        for machine in random_machines(1, 60, 5, 4):
            words = every_word(letters_of(machine), 3)
            for state, word in product(range(len(machine[0])), words):
                there = run(machine, state, word)
                self.assertEqual(lead(machine, state, word), there)
                self.assertIs(accepts((machine[0], state, machine[2]), word), there in machine[2])

    def test_the_order_of_the_letters_of_a_word(self):
        machine = make_machine([[1, 2], [1, 3], [4, 2], [3, 3], [4, 4]], 0, [3])
        self.assertEqual(lead(machine, 0, "ab"), 3)
        self.assertEqual(lead(machine, 0, "ba"), 4)
        self.assertIs(accepts(machine, "ab"), True)
        self.assertIs(accepts(machine, "ba"), False)

    def test_empty_word(self):
        machine = make_machine([[1], [2], [0]], 1, [1])
        self.assertEqual([lead(machine, state, "") for state in range(3)], [0, 1, 2])
        self.assertIs(accepts(machine, ""), True)
        self.assertIs(accepts((machine[0], 0, machine[2]), ""), False)

    def test_long_words(self):
        machine = make_machine([[(state + 1) % 37, state, (state + 5) % 37, 0] for state in range(37)], 3, [4])
        for word in ("a" * 4000, "ab" * 2000, "acb" * 1333, "d" * 3999 + "a", "abcc" * 1000):
            there = run(machine, 3, word)
            self.assertEqual(lead(machine, 3, word), there)
            self.assertIs(accepts(machine, word), there == 4)
        self.assertEqual(lead(machine, 0, "a" * 4000), 4000 % 37)

    def test_examples(self):
        machine = make_machine([[1, 0], [2, 0], [2, 0]], 0, [2])
        self.assertEqual(lead(machine, 0, "aab"), 0)
        self.assertIs(accepts(machine, "baa"), True)
        with self.assertRaises(InvalidMachine):
            make_machine([[1, 0], [2]], 0, [])


class WordsUptoTest(unittest.TestCase):
    def test_written_out(self):
        self.assertEqual(words_upto("ab", 2), ["", "a", "b", "aa", "ab", "ba", "bb"])
        self.assertEqual(words_upto("abcd", 1), ["", "a", "b", "c", "d"])

    def test_length_nought(self):
        for letters in ("a", "ab", "abc", "abcd"):
            self.assertEqual(words_upto(letters, 0), [""])

    def test_all_once_in_order(self):
        for letters, length in (("a", 30), ("ab", 9), ("abc", 6), ("abcd", 5)):
            words = words_upto(letters, length)
            self.assertEqual(words, every_word(letters, length))
            self.assertEqual(words, in_order(set(words)))

    def test_one_letter_and_a_great_length(self):
        self.assertEqual(words_upto("a", 1999), ["a" * length for length in range(2000)])

    def test_a_list_of_its_own(self):
        words = words_upto("ab", 3)
        words.clear()
        self.assertEqual(words_upto("ab", 3), every_word("ab", 3))


class EveryMachineTest(unittest.TestCase):
    def test_a_machine_is_what_make_machine_makes(self):
        for steps, start, good in every_machine(2, 2):
            made = make_machine([list(row) for row in steps], start, list(good))
            self.assertEqual(made, (steps, start, good))


if __name__ == "__main__":
    unittest.main()
