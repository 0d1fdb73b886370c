"""Points 11 and 12, and the interface of rings.py."""

import unittest
from itertools import permutations, product

from turnsandthrows.machines import letters_of, make_machine
from turnsandthrows.rings import find_ring, is_ring, primes, ring_of

from tests.tools import all_that_words_do, cycle_lengths, every_machine, every_word, random_machines, run


def is_right(machine, word, states):
    """Whether the word and the states are a ring, by the words of point 11."""
    return (
        word != ""
        and set(word) <= set(letters_of(machine))
        and len(states) >= 2
        and len(set(states)) == len(states)
        and set(states) <= set(range(len(machine[0])))
        and all(run(machine, a, word) == b for a, b in zip(states, states[1:] + states[:1]))
    )


def numbers_of(machine):
    """The numbers of two or more by which the machine goes round."""
    found = set()
    for row in all_that_words_do(machine):
        found |= cycle_lengths(row)
    return found - {1}


def machines():
    """Machines of 1 to 6 states, that go round by one number or another, or do not."""
    yield from every_machine(1, 2)
    yield from list(every_machine(2, 2))[::5]
    yield from list(every_machine(3, 2))[::97]
    yield from random_machines(31, 120, 6, 3)
    yield from random_machines(32, 120, 6, 1)
    for count in range(1, 7):
        yield make_machine([[(state + 1) % count] for state in range(count)], 0, [])
        yield make_machine([[min(state + 1, count - 1), max(state - 1, 0)] for state in range(count)], 0, [])
        yield make_machine([[(state + 1) % count, 1 if state == 0 else state] for state in range(count - 1)]
                           + [[0, 0]] if count > 1 else [[0, 0]], 0, [])
    yield make_machine([[1, 0], [2, 1], [3, 2], [4, 3], [5, 4], [0, 0]], 0, [])
    yield make_machine([[1, 1, 0], [2, 0, 1], [0, 2, 2], [4, 3, 3], [3, 4, 5], [5, 5, 4]], 0, [])


class IsRingTest(unittest.TestCase):
    def setUp(self):
        self.circle = make_machine([[1], [2], [0]], 0, [])

    def test_ring(self):
        for states in ((0, 1, 2), (1, 2, 0), (2, 0, 1)):
            self.assertIs(is_ring(self.circle, "a", states), True)
            self.assertIs(is_ring(self.circle, "aaaa", states), True)
            self.assertIs(is_ring(self.circle, "aa", states), False)
        self.assertIs(is_ring(self.circle, "aa", (0, 2, 1)), True)
        self.assertIs(is_ring(self.circle, "a", (0, 1)), False)
        self.assertIs(is_ring(self.circle, "aaa", (0, 1, 2)), False)

    def test_wrong_letters(self):
        for word in ("b", "ab", "A", "aaa ", "a\n", "\u00e4", "d", "0", "%"):
            self.assertIs(is_ring(self.circle, word, (0, 1, 2)), False)
        two = make_machine([[1, 1], [0, 0]], 0, [])
        self.assertIs(is_ring(two, "aab", (0, 1)), True)
        self.assertIs(is_ring(two, "aac", (0, 1)), False)

    def test_empty_word(self):
        for states in ((0, 1, 2), (0, 1), (0,), ()):
            self.assertIs(is_ring(self.circle, "", states), False)

    def test_states_that_come_twice(self):
        self.assertIs(is_ring(self.circle, "a", (0, 1, 2, 0, 1, 2)), False)
        self.assertIs(is_ring(self.circle, "aaa", (0, 0)), False)
        rest = make_machine([[0], [0]], 0, [])
        self.assertIs(is_ring(rest, "a", (0, 0)), False)

    def test_what_is_no_state(self):
        for states in ((0, 1, -1), (-3, 1, 2), (0, 3), (3, 4), (0, 1, 2, 3), (-1, -2), (0, 10 ** 30)):
            self.assertIs(is_ring(self.circle, "a", states), False)
        self.assertIs(is_ring(make_machine([[1], [0]], 0, []), "a", (0, -1)), False)

    def test_less_than_two_states(self):
        rest = make_machine([[0], [1]], 0, [])
        self.assertIs(is_ring(rest, "a", (0,)), False)
        self.assertIs(is_ring(rest, "a", ()), False)

    def test_all_small_ones(self):
        for machine in list(every_machine(3, 2))[::211]:
            for word in every_word("abc", 2):
                for count in range(4):
                    for states in product(range(-1, 4), repeat=count):
                        self.assertIs(is_ring(machine, word, states), is_right(machine, word, states))

    def test_long_words(self):
        machine = make_machine([[(state + 1) % 40, (state + 39) % 40, state, 0] for state in range(40)], 7, [])
        forty = tuple(range(40))
        self.assertIs(is_ring(machine, "ab" * 2000, forty), False)
        self.assertIs(is_ring(machine, "a" + "ab" * 1999 + "c", forty), True)
        self.assertIs(is_ring(machine, "a" * 3961 + "c" * 39, forty), True)
        self.assertIs(is_ring(machine, "a" * 3961 + "c" * 38 + "d", forty), False)
        self.assertIs(is_ring(machine, "a" * 20 + "bc" * 40 + "a" * 40, (3, 23)), True)
        self.assertIs(is_ring(machine, "a", forty[1:]), False)
        self.assertIs(is_ring(machine, "b", forty[::-1]), True)

    def test_example(self):
        self.assertIs(is_ring(make_machine([[1], [2], [0]], 0, []), "a", (0, 1, 2)), True)


class FindTest(unittest.TestCase):
    def check(self, machine, ring):
        self.assertIs(type(ring), tuple)
        word, states = ring
        self.assertIs(type(states), tuple)
        self.assertTrue(1 <= len(word) <= 4000)
        self.assertTrue(is_right(machine, word, states))
        self.assertIs(is_ring(machine, word, states), True)

    def test_against_all_that_words_do(self):
        for machine in machines():
            numbers = numbers_of(machine)
            ring = find_ring(machine)
            self.assertEqual(ring is not None, len(numbers) > 0)
            if ring is not None:
                self.check(machine, ring)
            for count in range(2, 9):
                ring = ring_of(machine, count)
                self.assertEqual(ring is not None, count in numbers)
                if ring is not None:
                    self.check(machine, ring)
                    self.assertEqual(len(ring[1]), count)
            found = primes(machine)
            self.assertEqual(found, sorted(numbers & {2, 3, 5}))
            found.clear()
            self.assertEqual(primes(machine), sorted(numbers & {2, 3, 5}))

    def test_divisors_of_a_number(self):
        six = make_machine([[1], [2], [3], [4], [5], [0]], 0, [])
        self.assertEqual([count for count in range(2, 9) if ring_of(six, count)], [2, 3, 6])
        self.assertEqual(primes(six), [2, 3])

    def test_a_number_that_no_letter_shows(self):
        machine = make_machine([[1, 0], [0, 2], [2, 1]], 0, [])
        self.assertEqual([len(ring_of(machine, count)[1]) for count in (2, 3)], [2, 3])

    def test_none(self):
        machine = make_machine([[1, 0, 0], [2, 0, 1], [2, 1, 2]], 0, [])
        self.assertIsNone(find_ring(machine))
        self.assertEqual([ring_of(machine, count) for count in range(2, 9)], [None] * 7)
        self.assertEqual(primes(machine), [])
        one = make_machine([[0, 0, 0]], 0, [])
        self.assertIsNone(find_ring(one))
        self.assertEqual([ring_of(one, count) for count in range(2, 9)], [None] * 7)
        self.assertEqual(primes(one), [])

    def test_all_permutations_of_six_states(self):
        for swap in permutations(range(6), 2):
            rows = [[(state + 1) % 6, state] for state in range(6)]
            rows[swap[0]][1], rows[swap[1]][1] = swap[1], swap[0]
            machine = make_machine(rows, 0, [])
            for count in range(2, 9):
                ring = ring_of(machine, count)
                numbers = {2, 3, 4, 5, 6} if (swap[0] - swap[1]) % 6 in (1, 5) else numbers_of(machine)
                self.assertEqual(ring is not None, count in numbers)
                if ring is not None:
                    self.check(machine, ring)

    def test_example(self):
        self.assertEqual(primes(make_machine([[1, 0], [2, 1], [3, 2], [0, 0]], 0, [])), [2, 3])


if __name__ == "__main__":
    unittest.main()
