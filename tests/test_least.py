"""Point 6, and the interface of least.py."""

import unittest
from itertools import product
from random import Random

from turnsandthrows.errors import LettersDiffer, TooManyStates
from turnsandthrows.least import complement, difference, join, least
from turnsandthrows.machines import letters_of, make_machine

from tests.tools import accepted, every_machine, every_word, random_machine, random_machines, run

WAYS = {
    "both": lambda one, other: one and other,
    "either": lambda one, other: one or other,
    "one": lambda one, other: one != other,
}


def circle(size, start, good):
    """A machine with one letter that goes round by all its states."""
    return make_machine([[(state + 1) % size] for state in range(size)], start, good)


def only(length):
    """The least machine with one letter that accepts only the word of that length."""
    return make_machine([[min(state + 1, length + 1)] for state in range(length + 2)], 0, [length])


class LeastTest(unittest.TestCase):
    def check(self, machine):
        """Compare with what all words tell; for machines of at most 4 states."""
        count = len(machine[0])
        words = every_word(letters_of(machine), count)
        small = least(machine)
        steps, start, good = small
        self.assertEqual(accepted(small, every_word(letters_of(machine), 2 * count - 1)),
                         accepted(machine, every_word(letters_of(machine), 2 * count - 1)))
        met = {run(machine, machine[1], word) for word in words}
        self.assertEqual(len(steps), len({tuple(accepted((machine[0], s, machine[2]), words)) for s in met}))
        first_words = [next(w for w in words if run(small, 0, w) == state) for state in range(len(steps))]
        self.assertEqual(first_words, sorted(first_words, key=lambda word: (len(word), word)))
        self.assertEqual(start, 0)
        self.assertEqual(small, make_machine([list(row) for row in steps], start, list(good)))
        self.assertEqual(least(small), small)

    def test_small_machines(self):
        for machine in every_machine(2, 2):
            self.check(machine)
        for machine in every_machine(3, 1):
            self.check(machine)

    def test_greater_machines(self):
        for machine in random_machines(2, 400, 4, 3):
            self.check(machine)

    def test_same_least_machine_exactly_if_same_words(self):
        groups = {}
        for machine in [*every_machine(1, 2), *every_machine(2, 2)]:
            groups.setdefault(tuple(accepted(machine, every_word("ab", 3))), set()).add(least(machine))
        self.assertTrue(all(len(found) == 1 for found in groups.values()))
        self.assertEqual(len({machine for found in groups.values() for machine in found}), len(groups))

    def test_states_that_are_not_reached(self):
        machine = make_machine([[1, 0], [0, 1], [0, 2], [2, 1]], 1, [1, 2, 3])
        self.assertEqual(least(machine), (((1, 0), (0, 1)), 0, (0,)))

    def test_numbers_follow_the_least_words(self):
        machine = make_machine([[0, 0, 0], [3, 2, 1], [2, 0, 3], [3, 3, 0]], 1, [0, 2])
        self.assertEqual(least(machine), (((1, 2, 0), (1, 1, 3), (2, 3, 1), (3, 3, 3)), 0, (2, 3)))

    def test_one_state(self):
        self.assertEqual(least(make_machine([[0, 0]], 0, [])), (((0, 0),), 0, ()))
        self.assertEqual(least(make_machine([[0, 0]], 0, [0])), (((0, 0),), 0, (0,)))

    def test_no_good_state_and_good_states_alone(self):
        for count in (2, 5, 40):
            steps = [[(state + 1) % count, 0, state] for state in range(count)]
            self.assertEqual(least(make_machine(steps, 1, [])), (((0, 0, 0),), 0, ()))
            self.assertEqual(least(make_machine(steps, 1, list(range(count)))), (((0, 0, 0),), 0, (0,)))

    def test_forty_states(self):
        self.assertEqual(least(circle(40, 5, [3])), circle(40, 0, [38]))
        self.assertEqual(least(circle(40, 5, list(range(1, 40, 4)))), circle(4, 0, [0]))
        self.assertEqual(least(only(38)), only(38))

    def test_forty_states_in_another_order(self):
        random = Random(3)
        for letters in (1, 2, 4):
            machine = random_machine(random, 40, letters)
            names = list(range(40))
            random.shuffle(names)
            rows = [None] * 40
            for state, row in enumerate(machine[0]):
                rows[names[state]] = [names[there] for there in row]
            other = make_machine(rows, names[machine[1]], [names[state] for state in machine[2]])
            self.assertEqual(least(other), least(machine))
            self.assertEqual(least(least(machine)), least(machine))
            self.assertIsNone(difference(machine, other))

    def test_example(self):
        machine = make_machine([[1, 2], [3, 0], [1, 2], [1, 0]], 2, [1, 3])
        self.assertEqual(least(machine), (((1, 0), (1, 0)), 0, (1,)))


class DifferenceTest(unittest.TestCase):
    def check(self, first, second):
        words = every_word(letters_of(first), len(first[0]) + len(second[0]) - 1)
        pairs = zip(words, accepted(first, words), accepted(second, words))
        expected = next((word for word, one, other in pairs if one != other), None)
        self.assertEqual(difference(first, second), expected)
        self.assertEqual(difference(second, first), expected)

    def test_small_machines(self):
        for first, second in product(list(every_machine(2, 2))[::3], every_machine(2, 2)):
            self.check(first, second)

    def test_greater_machines(self):
        random = Random(4)
        for letters, _ in product((1, 2, 3), range(100)):
            first = random_machine(random, random.randint(1, 4), letters)
            self.check(first, random_machine(random, random.randint(1, 3), letters))

    def test_empty_word(self):
        self.assertEqual(difference(circle(3, 0, [0]), circle(3, 0, [1])), "")

    def test_none(self):
        self.assertIsNone(difference(circle(4, 0, [0, 2]), circle(2, 0, [0])))
        self.assertIsNone(difference(circle(40, 1, []), circle(39, 7, [])))

    def test_long_word(self):
        even, nearly = circle(40, 0, [39]), only(39 - 1)
        self.assertEqual(difference(even, nearly), "a" * 38)
        self.assertEqual(difference(circle(40, 0, [39]), circle(39, 0, [])), "a" * 39)

    def test_the_least_word_of_that_length(self):
        first = make_machine([[0, 1, 1], [1, 1, 1]], 0, [1])
        self.assertEqual(difference(first, make_machine([[0, 0, 0]], 0, [])), "b")
        late = make_machine([[1, 2], [1, 3], [4, 1], [1, 1], [4, 4]], 0, [3, 4])
        self.assertEqual(difference(late, make_machine([[0, 0]], 0, [])), "ab")

    def test_letters_differ(self):
        for first, second in ((1, 2), (2, 1), (3, 4), (4, 1)):
            with self.assertRaises(LettersDiffer):
                difference(make_machine([[0] * first], 0, []), make_machine([[0] * second], 0, []))

    def test_example(self):
        even = make_machine([[1], [0]], 0, [0])
        third = make_machine([[1], [2], [0]], 0, [0])
        self.assertEqual(difference(even, third), "aa")


class ComplementTest(unittest.TestCase):
    def test_against_all_words(self):
        for machine in [*every_machine(2, 2), *random_machines(5, 200, 4, 3)]:
            words = every_word(letters_of(machine), 2 * len(machine[0]) - 1)
            other = complement(machine)
            self.assertEqual(accepted(other, words), [not good for good in accepted(machine, words)])
            self.assertEqual(least(other), other)

    def test_forty_states(self):
        self.assertEqual(complement(circle(40, 0, [7])), circle(40, 0, [s for s in range(40) if s != 7]))
        self.assertEqual(complement(circle(40, 0, [])), (((0,),), 0, (0,)))


class JoinTest(unittest.TestCase):
    def check(self, first, second):
        words = every_word(letters_of(first), 5)
        for way, joined in WAYS.items():
            machine = join(first, second, way)
            expected = list(map(joined, accepted(first, words), accepted(second, words)))
            self.assertEqual(accepted(machine, words), expected)
            self.assertEqual(least(machine), machine)
            self.assertEqual(join(second, first, way), machine)

    def test_against_all_words(self):
        machines = list(every_machine(2, 2))
        for first, second in product(machines[::7], machines[::5]):
            self.check(first, second)
        random = Random(6)
        for letters in (1, 2, 3):
            for _ in range(40):
                first = random_machine(random, random.randint(1, 4), letters)
                self.check(first, random_machine(random, random.randint(1, 3), letters))

    def test_letters_differ(self):
        for way in WAYS:
            for first, second in ((circle(2, 0, []), make_machine([[0, 0]], 0, [])),
                                  (make_machine([[0, 0, 0]], 0, []), circle(40, 0, [1]))):
                with self.assertRaises(LettersDiffer):
                    join(first, second, way)

    def test_too_many_states(self):
        for way in WAYS:
            for first, second in ((circle(6, 0, [0]), circle(7, 0, [0])), (circle(40, 0, [1]), circle(39, 0, [5]))):
                with self.assertRaises(TooManyStates):
                    join(first, second, way)
                with self.assertRaises(TooManyStates):
                    join(second, first, way)

    def test_forty_and_forty_one_states(self):
        self.assertEqual(len(join(circle(5, 0, [0]), circle(8, 0, [0]), "both")[0]), 40)
        odd = circle(2, 0, [1])
        with self.assertRaises(TooManyStates):
            join(only(38), odd, "either")
        self.assertEqual(len(join(only(37), circle(2, 0, [0]), "either")[0]), 40)
        self.assertEqual(join(only(38), odd, "both"), (((0,),), 0, ()))

    def test_many_pairs_and_few_states(self):
        self.assertEqual(join(circle(40, 0, [1]), circle(39, 0, []), "both"), (((0,),), 0, ()))
        self.assertEqual(join(circle(40, 0, [1]), circle(39, 0, []), "either"), circle(40, 0, [1]))
        self.assertEqual(join(circle(39, 0, list(range(39))), circle(40, 0, [1]), "one"),
                         complement(circle(40, 0, [1])))
        every_third = circle(39, 0, list(range(0, 39, 3)))
        self.assertEqual(join(circle(40, 0, list(range(0, 40, 2))), every_third, "both"), circle(6, 0, [0]))
        self.assertEqual(join(circle(40, 0, list(range(0, 40, 2))), every_third, "one"), circle(6, 0, [2, 3, 4]))


if __name__ == "__main__":
    unittest.main()
