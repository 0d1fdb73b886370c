"""Point 9, and the interface of permutations.py."""

import unittest
from itertools import permutations
from math import prod
from random import Random

from turnsandthrows.permutations import back, generated, order_of, prime_numbers, then

from tests.tools import closure, first_then, swap, way_back, wheel


def random_permutations(seed, count):
    """Permutations of 1 to 64 places, two of the same places at a time."""
    random = Random(seed)
    for at in range(count):
        places = at % 64 + 1
        p, q = list(range(places)), list(range(places))
        random.shuffle(p)
        random.shuffle(q)
        yield tuple(p), tuple(q)


class ThenAndBackTest(unittest.TestCase):
    def test_then(self):
        for p, q in random_permutations(21, 192):
            self.assertEqual(then(p, q), first_then(p, q))
            self.assertIs(type(then(p, q)), tuple)

    def test_back(self):
        for p, q in random_permutations(22, 192):
            same = tuple(range(len(p)))
            self.assertEqual(back(p), way_back(p))
            self.assertEqual(then(p, back(p)), same)
            self.assertEqual(then(back(p), p), same)
            self.assertEqual(back(then(p, q)), then(back(q), back(p)))

    def test_written_out(self):
        self.assertEqual(then((1, 2, 0), (1, 0, 2)), (0, 2, 1))
        self.assertEqual(then((1, 0, 2), (1, 2, 0)), (2, 1, 0))
        self.assertEqual(back((1, 2, 3, 0)), (3, 0, 1, 2))
        self.assertEqual((then((0,), (0,)), back((0,))), ((0,), (0,)))


class OrderTest(unittest.TestCase):
    def test_by_doing_it(self):
        for places in range(1, 6):
            same = tuple(range(places))
            for p in permutations(same):
                times, there = 1, p
                while there != same:
                    times, there = times + 1, first_then(there, p)
                self.assertEqual(order_of(p), times)

    def test_by_cycles(self):
        self.assertEqual(order_of((0,)), 1)
        self.assertEqual(order_of(tuple(range(64))), 1)
        for sizes in ((64,), (32, 32), (61, 3), (4, 6), (1, 1, 2), (3, 4, 5, 7, 11, 13, 17), (8, 9, 5, 7, 11, 13)):
            expected = {(32, 32): 32, (4, 6): 12}.get(sizes, prod(sizes))
            self.assertEqual(order_of(wheel(*sizes)), expected)

    def test_backwards_too(self):
        for p, _ in random_permutations(23, 128):
            self.assertEqual(order_of(back(p)), order_of(p))


class PrimeNumbersTest(unittest.TestCase):
    def test_one_to_a_thousand(self):
        primes = [n for n in range(2, 1001) if all(n % d for d in range(2, n))]
        for count in range(1, 1001):
            self.assertEqual(prime_numbers(count), [p for p in primes if count % p == 0])

    def test_a_list_of_its_own(self):
        self.assertEqual(prime_numbers(1), [])
        prime_numbers(30).clear()
        self.assertEqual(prime_numbers(30), [2, 3, 5])


class GeneratedTest(unittest.TestCase):
    def test_no_permutation(self):
        for places in (1, 2, 5, 64):
            self.assertEqual(generated(places, []), [tuple(range(places))])

    def test_one_place(self):
        self.assertEqual(generated(1, [(0,)]), [(0,)])
        self.assertEqual(generated(1, [(0,), (0,)]), [(0,)])

    def test_against_closure(self):
        random = Random(24)
        for places in (2, 3, 4, 5):
            for _ in range(25):
                makers = [tuple(random.sample(range(places), places)) for _ in range(random.randint(1, 3))]
                self.assertEqual(generated(places, makers), sorted(closure(places, makers)))

    def test_some_twice(self):
        turn = (1, 2, 3, 0)
        expected = [(0, 1, 2, 3), (1, 2, 3, 0), (2, 3, 0, 1), (3, 0, 1, 2)]
        self.assertEqual(generated(4, [turn, turn, (0, 1, 2, 3), turn]), expected)
        self.assertEqual(generated(4, expected[::-1]), expected)

    def test_several_hundred(self):
        self.assertEqual(generated(6, [wheel(6), swap(6, 0, 1)]), list(permutations(range(6))))
        even = generated(6, [wheel(3, 1, 1, 1), (0,) + tuple(i + 1 for i in wheel(5))])
        self.assertEqual((len(even), even), (360, sorted(set(even))))
        tens = [tuple(range(at)) + tuple(at + i for i in wheel(10)) + tuple(range(at + 10, 30)) for at in (0, 10, 20)]
        group = generated(30, tens)
        self.assertEqual((len(group), group), (1000, sorted(set(group))))

    def test_sixty_four_places(self):
        self.assertEqual(len(generated(64, [wheel(64)])), 64)
        self.assertEqual(len(generated(64, [wheel(9, 11, 7, 37)[:27] + tuple(range(27, 64))])), 693)
        swaps = [swap(64, 2 * at, 2 * at + 1) for at in range(9)]
        self.assertEqual(len(generated(64, swaps)), 512)
        group = generated(64, swaps[:4])
        self.assertEqual(group, sorted(closure(64, swaps[:4])))

    def test_the_list_stays(self):
        makers = [(1, 2, 0), (1, 0, 2), (1, 2, 0), (0, 1, 2)]
        group = generated(3, makers)
        self.assertEqual(makers, [(1, 2, 0), (1, 0, 2), (1, 2, 0), (0, 1, 2)])
        group.clear()
        self.assertEqual(generated(3, makers), list(permutations(range(3))))


if __name__ == "__main__":
    unittest.main()
