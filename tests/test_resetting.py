"""Point 35, the sizes of point 8, and the interface of resetting.py."""

import unittest
from itertools import combinations

from turnsandthrows.machines import make_machine
from turnsandthrows.resetting import apart, merging_word, rank, resetting_word

from tests.cascades import mixed_machines
from tests.tools import all_that_words_do, every_machine, every_word, in_order, random_machines, run


def small_machines():
    """Machines of 1 to 6 states and 1 to 3 letters."""
    yield from every_machine(1, 3)
    yield from list(every_machine(2, 2))[::5]
    yield from list(every_machine(3, 2))[::307]
    yield from random_machines(121, 80, 6, 3)
    yield from mixed_machines(122, 120, 6)
    yield from mixed_machines(123, 40, 6, ("turn", "one"))
    for count in range(2, 7):
        yield walled(count)


def walled(count):
    """States in a circle that one letter turns, and one that is merged with the next by another."""
    return make_machine([[(state + 1) % count, max(state, 1)] for state in range(count)], 0, [])


def large_machines():
    """Machines of up to 40 states and 4 letters."""
    yield from random_machines(124, 25, 40, 4)
    yield from mixed_machines(125, 15, 40, ("turn", "one"))
    yield make_machine([[(state + 1) % 40] * 4 for state in range(40)], 0, [])
    yield make_machine([[max(state - 1, 0)] for state in range(40)], 0, [])
    yield make_machine([[(state + 1) % 20 + state // 20 * 20, state % 20] for state in range(40)], 0, [])
    yield walled(40)
    yield make_machine([[state] for state in range(40)], 0, [])


def merging_words(machine):
    """The least words that merge the pairs of states, by the pairs that each letter leads to them."""
    letters = "abcd"[:len(machine[0][0])]
    states = range(len(machine[0]))
    words = {(state, state): "" for state in states}
    fresh = dict(words)
    while fresh:
        found = {}
        for one, other in combinations(states, 2):
            if (one, other) not in words:
                for at, letter in enumerate(letters):
                    there = tuple(sorted((machine[0][one][at], machine[0][other][at])))
                    if there in fresh:
                        word = letter + fresh[there]
                        found[one, other] = in_order([word, found.get((one, other), word)])[0]
        words.update(found)
        fresh = found
    return {pair: words.get(pair) for pair in combinations(states, 2)}


class MergingTest(unittest.TestCase):
    def check(self, machine):
        """The words and the pairs that are apart must be those of the search from behind."""
        words = merging_words(machine)
        with self.subTest(machine):
            for (one, other), word in list(words.items())[::1 if len(words) < 100 else 13]:
                self.assertEqual(merging_word(machine, one, other), word)
                self.assertEqual(merging_word(machine, other, one), word)
            told = apart(machine)
            self.assertIsInstance(told, list)
            self.assertEqual(told, sorted(pair for pair, word in words.items() if word is None))

    def test_small_machines(self):
        for machine in small_machines():
            self.check(machine)

    def test_large_machines(self):
        for machine in large_machines():
            self.check(machine)

    def test_against_all_words(self):
        for machine in list(small_machines())[::9]:
            words = every_word("abc"[:len(machine[0][0])], 6)
            for one, other in combinations(range(len(machine[0])), 2):
                found = [word for word in words if run(machine, one, word) == run(machine, other, word)]
                told = merging_word(machine, one, other)
                if found:
                    self.assertEqual(told, found[0])
                else:
                    self.assertTrue(told is None or len(told) > 6)

    def test_examples(self):
        self.assertEqual(apart(make_machine([[1, 0], [0, 1], [2, 0]], 0, [])), [(0, 1)])
        self.assertEqual(apart(make_machine([[0]], 0, [])), [])
        self.assertEqual(apart(make_machine([[1], [2], [0]], 0, [])), [(0, 1), (0, 2), (1, 2)])
        self.assertEqual(merging_word(make_machine([[1, 0], [0, 1], [2, 0]], 0, []), 2, 0), "b")
        self.assertIsNone(merging_word(make_machine([[1, 0], [0, 1], [2, 0]], 0, []), 1, 0))

    def test_lists_belong_to_the_caller(self):
        machine = make_machine([[1], [2], [0]], 0, [])
        apart(machine).clear()
        self.assertEqual(len(apart(machine)), 3)


class ResettingTest(unittest.TestCase):
    def test_against_what_words_do(self):
        found = []
        for machine in small_machines():
            rows = all_that_words_do(machine)
            sizes = [len(set(row)) for row in rows]
            words = [word for row, word in rows.items() if len(set(row)) == 1]
            told = resetting_word(machine)
            with self.subTest(machine):
                self.assertEqual(told, in_order(words)[0] if words else None)
                self.assertEqual(rank(machine), min(sizes))
                # There is a resetting word exactly if each two states can be merged.
                self.assertEqual(told is None, apart(machine) != [])
                self.assertEqual(told is None, rank(machine) > 1)
            found.append(rank(machine))
        self.assertEqual(set(found), {1, 2, 3, 4, 5, 6})

    def test_long_words(self):
        # Each word that resets it has at least (count - 1) ** 2 letters.
        for count in range(2, 7):
            self.assertEqual(len(resetting_word(walled(count))), (count - 1) ** 2)

    def test_examples(self):
        self.assertEqual(resetting_word(make_machine([[1, 0], [2, 1], [0, 0]], 0, [])), "baab")
        self.assertIsNone(resetting_word(make_machine([[1, 0], [0, 1]], 0, [])))
        self.assertEqual(rank(make_machine([[1, 0], [0, 1]], 0, [])), 2)

    def test_one_state(self):
        for letters in (1, 2, 3):
            machine = make_machine([[0] * letters], 0, [])
            self.assertEqual((resetting_word(machine), rank(machine), apart(machine)), ("", 1, []))

    def test_start_and_good_states_do_not_matter(self):
        steps = [[1, 0], [2, 1], [0, 0]]
        for start in range(3):
            for good in ([], [0], [1, 2], [0, 1, 2]):
                machine = make_machine(steps, start, good)
                self.assertEqual((resetting_word(machine), rank(machine)), ("baab", 1))
                self.assertEqual(merging_word(machine, 0, 1), merging_word(make_machine(steps, 0, []), 0, 1))


if __name__ == "__main__":
    unittest.main()
