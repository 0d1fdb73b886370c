"""Points 19 to 21, and the interface of pieces.py."""

import unittest
from itertools import permutations, product
from random import Random

from turnsandthrows.cascade import Cascade
from turnsandthrows.groups import factors
from turnsandthrows.judging import first_fault, group_sizes
from turnsandthrows.machines import make_machine
from turnsandthrows.permutations import generated
from turnsandthrows.pieces import is_prime, piece_machine, split

from tests.cascades import all_faults, even_permutations, follows, groups_of, is_turn, parts_of, stirred, used
from tests.tools import closure, every_word, first_then, normal_closure, wheel


def every_act(places):
    """All permutations and resets of the places, each once."""
    same = list(range(places))
    return sorted(set(permutations(same)) | {(place,) * places for place in same})


def pieces():
    """Pieces of 1 to 5 places and 1 to 4 letters."""
    random = Random(91)
    for letters in range(1, 5):
        yield [(0,)] * letters
        for places in range(2, 6):
            acts = every_act(places)
            resets = [(place,) * places for place in range(places)]
            yield [tuple(range(places))] * letters
            for _ in range(12):
                yield random.choices(resets, k=letters)
                yield random.choices(acts, k=letters)
                yield random.choices(acts + resets * 6, k=letters)
                yield random.choices(even_permutations(places) + resets, k=letters)
    for acts in product(every_act(3), repeat=2):
        yield list(acts)
    yield from ([act] for act in every_act(4))


def by_the_words(machine, cascade):
    """Whether a cascade that is right for the machine is prime, by the words of point 20."""
    return all(is_prime_level(used(machine, cascade, k), width) for k, width in enumerate(cascade.widths))


def is_prime_level(acts, width):
    """Whether a level with these acts is throwing or turning."""
    same = tuple(range(width))
    if width == 2 and all(act == same or len(set(act)) == 1 for act in acts):
        return True
    group = closure(width, acts) if all(map(is_turn, acts)) else set()
    if len(group) != width or len(group) == 1:
        return False
    pairs = {(i, p[i]) for p in group for i in same}
    parts = [normal_closure(sorted(group), [element]) for element in group if element != same]
    return len(pairs) == width * width and all(part == group for part in parts)


def one_level(machine, *acts):
    """A cascade of one level whose rows all show the one state of the machine."""
    width = len(acts[0])
    table = {((), letter): act for letter, act in zip("abcd", acts)}
    return Cascade([width], [table], {(place,): 0 for place in range(width)})


class PieceMachineTest(unittest.TestCase):
    def test_steps(self):
        self.assertEqual(piece_machine([(1, 2, 0), (0, 0, 0)]), (((1, 0), (2, 0), (0, 0)), 0, ()))
        self.assertEqual(piece_machine([(0,)]), (((0,),), 0, ()))
        acts = [(1, 2, 3, 4, 0), (4,) * 5, (1, 0, 2, 3, 4), (0, 1, 2, 3, 4)]
        expected = make_machine([[act[place] for act in acts] for place in range(5)], 0, [])
        self.assertEqual(piece_machine(acts), expected)
        self.assertEqual([type(row) for row in piece_machine(acts)[0]], [tuple] * 5)

    def test_the_list_of_acts_stays(self):
        acts = [(1, 2, 0), (0, 0, 0)]
        piece_machine(acts)
        split(acts)
        self.assertEqual(acts, [(1, 2, 0), (0, 0, 0)])


class SplitTest(unittest.TestCase):
    def check(self, acts):
        machine = piece_machine(acts)
        cascade = split(list(acts))
        self.assertIs(type(cascade), Cascade)
        self.assertIsNone(first_fault(machine, cascade))
        self.assertLessEqual(len(cascade.widths), 20)
        self.assertLessEqual(len(cascade.shown), 1000)
        self.assertIs(is_prime(machine, cascade), True)
        group = generated(len(acts[0]), [act for act in acts if is_turn(act)])
        sizes = [size for size in group_sizes(machine, cascade) if size > 1]
        self.assertEqual(sorted(sizes, reverse=True), factors(group))
        return cascade

    def test_many_pieces(self):
        for acts in pieces():
            self.check(acts)

    def test_by_the_words_of_the_points(self):
        random = Random(92)
        for acts in list(pieces())[::9] + [random.choices(every_act(4), k=3) for _ in range(20)]:
            if len(acts[0]) < 5:
                machine, cascade = piece_machine(acts), self.check(acts)
                self.assertEqual(all_faults(machine, cascade), [])
                self.assertTrue(by_the_words(machine, cascade))
                self.assertEqual([len(group) for group in groups_of(machine, cascade)], group_sizes(machine, cascade))

    def test_rows_follow_their_places(self):
        for acts in ([(1, 2, 0), (0, 0, 0), (1, 0, 2)], [(1, 0, 3, 2), (3, 3, 3, 3)], [(2, 2, 2), (0, 0, 0)]):
            words = every_word("abc"[:len(acts)], 5)
            self.assertTrue(follows(piece_machine(acts), split(acts), words))

    def test_one_place(self):
        for letters in range(1, 5):
            self.assertEqual(group_sizes(piece_machine([(0,)] * letters), self.check([(0,)] * letters)), [])

    def test_resets_alone(self):
        for places in range(2, 6):
            for letters in range(1, 5):
                cascade = self.check([((letter * 2) % places,) * places for letter in range(letters)])
                self.assertEqual(set(cascade.widths), {2})

    def test_identities(self):
        for places in range(2, 6):
            cascade = self.check([tuple(range(places))] * 3)
            self.assertEqual(set(cascade.widths), {2})

    def test_five_places(self):
        turn, swap, three = (1, 2, 3, 4, 0), (1, 0, 2, 3, 4), (1, 2, 0, 3, 4)
        reset = (3,) * 5
        for acts, expected in (
            ([turn, three], [60]),
            ([turn, three, reset, (0,) * 5], [60]),
            ([turn, swap], [60, 2]),
            ([turn, swap, reset], [60, 2]),
            ([turn, (0, 4, 3, 2, 1)], [5, 2]),
            ([turn, (0, 2, 4, 1, 3), reset], [5, 2, 2]),
            ([(1, 2, 3, 0, 4), swap, reset], [3, 2, 2, 2]),
            ([three, (0, 1, 2, 4, 3)], [3, 2]),
            ([turn], [5]),
        ):
            cascade = self.check(acts)
            sizes = group_sizes(piece_machine(acts), cascade)
            self.assertEqual(sorted([size for size in sizes if size > 1], reverse=True), expected)
            self.assertEqual(sorted([width for width in cascade.widths if width > 2], reverse=True),
                             [size for size in expected if size > 2])

    def test_each_answer_is_its_own(self):
        acts = [(1, 2, 0), (0, 0, 0)]
        split(acts).shown.clear()
        split(acts).acts[0].clear()
        self.check(acts)


class IsPrimeTest(unittest.TestCase):
    def setUp(self):
        self.one = make_machine([[0, 0]], 0, [])

    def check(self, expected, *acts):
        cascade = one_level(self.one, *acts)
        self.assertIsNone(first_fault(self.one, cascade))
        self.assertIs(is_prime(self.one, cascade), expected)
        self.assertIs(is_prime(self.one, stirred(self.one, cascade)), expected)

    def test_throwing(self):
        self.check(True, (0, 0), (0, 1))
        self.check(True, (0, 0), (1, 1))
        self.check(True, (0, 1), (0, 1))

    def test_turning(self):
        self.check(True, (1, 0), (0, 1))
        self.check(True, (1, 0), (1, 0))
        self.check(True, (1, 2, 0), (0, 1, 2))
        self.check(True, (1, 2, 3, 4, 0), (2, 3, 4, 0, 1))
        self.check(True, tuple((place + 1) % 61 for place in range(61)), tuple(range(61)))

    def test_simple_group_of_sixty(self):
        group = even_permutations(5)
        columns = [tuple(group.index(first_then(g, p)) for g in group) for p in ((1, 2, 3, 4, 0), (1, 2, 0, 3, 4))]
        self.check(True, *columns)

    def test_swap_and_reset(self):
        self.check(False, (1, 0), (0, 0))

    def test_resets_of_other_than_two_places(self):
        self.check(False, (0, 0, 0), (1, 1, 1))
        self.check(False, (0, 0, 0), (0, 1, 2))
        self.check(False, (0, 0, 0), (1, 2, 0))

    def test_one_place(self):
        self.check(False, (0,), (0,))

    def test_identities_of_other_than_two_places(self):
        self.check(False, (0, 1, 2), (0, 1, 2))

    def test_groups_of_another_size(self):
        self.check(False, (1, 2, 0), (1, 0, 2))
        self.check(False, (1, 0, 2), (0, 1, 2))
        self.check(False, (1, 2, 3, 4, 0), (1, 2, 0, 3, 4))

    def test_groups_that_do_not_lead_everywhere(self):
        # As many elements as places, and simple: even permutations of five places, twelve times.
        columns = []
        for p in ((1, 2, 3, 4, 0), (1, 2, 0, 3, 4)):
            columns.append(tuple(p[place % 5] + place - place % 5 for place in range(60)))
        self.check(False, *columns)
        self.check(False, (1, 0, 2, 3), (0, 1, 3, 2))

    def test_groups_that_are_not_simple(self):
        self.check(False, (1, 2, 3, 0), (0, 1, 2, 3))
        self.check(False, (1, 0, 3, 2), (2, 3, 0, 1))
        self.check(False, wheel(6), tuple(range(6)))
        self.check(False, (1, 2, 0, 4, 5, 3), (3, 5, 4, 0, 2, 1))

    def test_each_level_counts(self):
        good = {(0,): (1, 2, 0), (1,): (0, 1, 2)}
        for wrong in (None, (0, 0, 0), (1, 0, 2)):
            acts = [{((), "a"): (1, 1)}, {(prefix, "a"): act for prefix, act in good.items()}]
            if wrong is not None:
                acts[1][(1,), "a"] = wrong
            machine = make_machine([[0]], 0, [])
            for swapped in (False, True):
                shown = {row: 0 for row in product(range(2), range(3))}
                cascade = Cascade([2, 3], acts, shown)
                if swapped:
                    acts = [{((), "a"): (1, 2, 0) if wrong is None else wrong}, {((k,), "a"): (1, 1) for k in range(3)}]
                    cascade = Cascade([3, 2], acts, {row: 0 for row in product(range(3), range(2))})
                self.assertIsNone(first_fault(machine, cascade))
                self.assertIs(is_prime(machine, cascade), wrong is None)

    def test_acts_that_do_not_matter(self):
        for acts in list(pieces())[::5]:
            machine = piece_machine(acts)
            self.assertIs(is_prime(machine, stirred(machine, split(acts))), True)
        # The only row that is shown has the place 0, so that the act behind place 1 is not needed.
        machine = make_machine([[0]], 0, [])
        acts = [{((), "a"): (0, 0)}, {((0,), "a"): (1, 0), ((1,), "a"): (0, 0), ((0,), "b"): (1, 1)}]
        self.assertIs(is_prime(machine, Cascade([2, 2], acts, {(0, 0): 0, (0, 1): 0})), True)
        shown = {row: 0 for row in product(range(2), repeat=2)}
        self.assertIs(is_prime(machine, Cascade([2, 2], acts, shown)), False)

    def test_no_levels(self):
        self.assertIs(is_prime(self.one, Cascade([], [], {(): 0})), True)

    def test_small_levels_by_the_words_of_the_point(self):
        for places in (1, 2, 3, 4):
            acts = every_act(places)
            for pair in list(product(acts, repeat=2))[::3 if places == 4 else 1]:
                cascade = one_level(self.one, *pair)
                self.assertIs(is_prime(self.one, cascade), by_the_words(self.one, cascade))

    def test_large_machines(self):
        columns = [tuple((state + 1) % 37 for state in range(37)), tuple(range(37)), tuple(range(36, -1, -1))]
        acts = {((), letter): entries for letter, entries in zip("abc", columns)}
        shown = {(state,): state for state in range(37)}
        for letters in (1, 2, 3):
            machine = make_machine([list(row) for row in zip(*columns[:letters])], 0, [])
            cascade = Cascade([37], [acts], shown)
            self.assertIsNone(first_fault(machine, cascade))
            self.assertIs(is_prime(machine, cascade), letters < 3)

    def test_nothing_is_changed(self):
        acts = [(1, 2, 0), (0, 0, 0)]
        cascade = split(acts)
        before = parts_of(cascade)
        is_prime(piece_machine(acts), cascade)
        self.assertEqual(parts_of(cascade), before)

    def test_example(self):
        acts = [(1, 2, 0), (0, 0, 0)]
        self.assertIs(is_prime(piece_machine(acts), split(acts)), True)


if __name__ == "__main__":
    unittest.main()
