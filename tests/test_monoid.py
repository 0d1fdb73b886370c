"""Points 33 and 34, and the interface of monoid.py."""

import unittest

from turnsandthrows.machines import make_machine
from turnsandthrows.monoid import settling, transformations
from turnsandthrows.rings import find_ring

from tests.cascades import columns_machine, mixed_machines
from tests.tools import cycle_lengths, every_machine, every_word, first_then, in_order, random_machines, run


def machines():
    """Machines of 1 to 4 states and 1 to 3 letters."""
    yield from every_machine(1, 3)
    yield from list(every_machine(2, 2))[::3]
    yield from list(every_machine(3, 2))[::211]
    yield from random_machines(111, 150, 4, 3)
    yield from mixed_machines(112, 150, 4)
    # All transformations of four states, and all permutations of them.
    yield columns_machine([(1, 2, 3, 0), (1, 0, 2, 3), (0, 0, 2, 3)])
    yield columns_machine([(1, 2, 3, 0), (1, 0, 2, 3)])
    yield columns_machine([(0, 0, 1, 2), (1, 2, 3, 3)])


def transformation(machine, word):
    """The states to which the word leads the states."""
    return tuple(run(machine, state, word) for state in range(len(machine[0])))


def power(row, count):
    """The row done a number of times."""
    told = tuple(range(len(row)))
    for _ in range(count):
        told = first_then(told, row)
    return told


class TransformationsTest(unittest.TestCase):
    def test_against_all_words(self):
        for machine in machines():
            told = transformations(machine)
            letters = "abc"[:len(machine[0][0])]
            words = every_word(letters, 6 if len(letters) > 1 else 12)
            least = {}
            for word in words:
                least.setdefault(transformation(machine, word), word)
            with self.subTest(machine):
                self.assertIsInstance(told, dict)
                self.assertEqual({row: word for row, word in told.items() if len(word) <= len(words[-1])}, least)
                for row, word in told.items():
                    self.assertEqual(transformation(machine, word), row)
                # A longer least word is a least word and one letter more, and no letter leads out.
                for row, word in told.items():
                    self.assertIn(word[:-1], told.values())
                    self.assertIn(word[1:], told.values())
                    for letter in letters:
                        there = transformation(machine, word + letter)
                        self.assertEqual(in_order([told[there], word + letter])[0], told[there])

    def test_all_of_four_states(self):
        machine = columns_machine([(1, 2, 3, 0), (1, 0, 2, 3), (0, 0, 2, 3)])
        self.assertEqual(len(transformations(machine)), 256)
        self.assertEqual(transformations(machine)[0, 1, 2, 3], "")

    def test_one_state(self):
        for letters in (1, 2, 3):
            self.assertEqual(transformations(make_machine([[0] * letters], 0, [0])), {(0,): ""})

    def test_the_dict_belongs_to_the_caller(self):
        machine = make_machine([[1, 0], [0, 1]], 0, [])
        told = transformations(machine)
        transformations(machine).clear()
        transformations(machine)[0, 1] = "x"
        self.assertEqual(transformations(machine), told)
        self.assertEqual(told, {(0, 1): "", (1, 0): "a"})


class SettlingTest(unittest.TestCase):
    def test_against_the_powers(self):
        found = []
        for machine in machines():
            rows = list(transformations(machine))
            counts = [k for k in range(12) if all(power(row, k) == power(row, k + 1) for row in rows)]
            told = settling(machine)
            found.append(told)
            with self.subTest(machine):
                self.assertEqual(told, counts[0] if counts else None)
                self.assertEqual(told is None, find_ring(machine) is not None)
                self.assertEqual(told is None, any(cycle_lengths(row) - {1} for row in rows))
        self.assertEqual(set(found), {None, 0, 1, 2, 3})

    def test_small(self):
        self.assertEqual(settling(make_machine([[1], [2], [2]], 0, [])), 2)
        self.assertEqual(settling(make_machine([[1], [2], [3], [3]], 0, [])), 3)
        self.assertEqual(settling(make_machine([[0, 0]], 0, [])), 0)
        self.assertEqual(settling(make_machine([[0], [1], [2]], 0, [])), 0)
        self.assertEqual(settling(make_machine([[0, 1], [1, 1]], 0, [])), 1)
        self.assertIsNone(settling(make_machine([[1], [0]], 0, [])))
        self.assertIsNone(settling(make_machine([[1, 0], [2, 0], [0, 0]], 0, [])))
        # No letter turns states round, but a word of two letters does.
        self.assertIsNone(settling(make_machine([[1, 1], [1, 2], [1, 0]], 0, [])))


if __name__ == "__main__":
    unittest.main()
