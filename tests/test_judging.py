"""Points 14, 16 and 17, and the interface of judging.py."""

import unittest
from itertools import product
from random import Random

from turnsandthrows.cascade import Cascade
from turnsandthrows.decomposing import decompose
from turnsandthrows.judging import first_fault, group_sizes, turns
from turnsandthrows.machines import make_machine
from turnsandthrows.pieces import piece_machine, split

from tests.cascades import all_faults, groups_of, is_turn, machines, mixed_machines, parts_of, stirred, used

KINDS = ("hidden", "state", "place", "missing", "neither", "lost", "wrong")


def example():
    """The machine of the examples, and what its cascade is made of."""
    machine = make_machine([[1, 0], [1, 1]], 0, [])
    return machine, [2], [{((), "a"): (1, 1), ((), "b"): (0, 1)}], {(0,): 0, (1,): 1}


def spoil(random, kind, machine, widths, acts, shown):
    """Change what a cascade is made of, so that it has a fault of the kind, where that can be."""
    row = random.choice(sorted(shown))
    letter = random.choice("abcd"[:len(machine[0][0])])
    states = len(machine[0])
    level = random.randrange(len(widths))
    if kind == "hidden":
        for other in [other for other in shown if shown[other] == shown[row]]:
            shown[other] = (shown[row] + 1) % states
    elif kind == "state":
        shown[row] = random.choice((-1, states, 99))
    elif kind == "place":
        place = random.choice((-1, widths[level], 64))
        shown[row[:level] + (place,) + row[level + 1:]] = shown.pop(row)
    elif kind == "missing":
        acts[level].pop((row[:level], letter), None)
    elif kind == "neither" and max(widths) > 2:
        level = random.choice([k for k in range(len(widths)) if widths[k] > 2])
        acts[level][row[:level], letter] = (1, 1) + (0,) * (widths[level] - 2)
    elif kind == "lost" and len(shown) > 1:
        shown.pop(row)
    elif kind == "wrong":
        shown[row] = random.randrange(states)


class FirstFaultTest(unittest.TestCase):
    def check(self, parts, fault):
        machine, widths, acts, shown = parts
        found = first_fault(machine, Cascade(widths, acts, shown))
        self.assertEqual(found, fault)
        self.assertIs(type(found), tuple)

    def test_right(self):
        machine, *parts = example()
        self.assertIsNone(first_fault(machine, Cascade(*parts)))

    def test_each_kind(self):
        for state in (0, 1):
            parts = example()
            parts[3][state,] = 1 - state
            self.check(parts, ("hidden", state))
        for state in (-1, 2, 40):
            parts = example()
            parts[3][0,] = 0
            parts[3][5,] = state
            self.check(parts, ("state", (5,)))
        for place in (-1, 2, 64):
            parts = example()
            parts[3][place,] = 1
            self.check(parts, ("place", (place,), 0))
        for letter in "ab":
            parts = example()
            del parts[2][0][(), letter]
            self.check(parts, ("missing", (0,), letter, 0))
        machine = make_machine([[0], [0]], 0, [])
        shown = {(0,): 0, (1,): 1, (2,): 1}
        self.check((machine, [3], [{((), "a"): (0, 0, 1)}], shown), ("neither", (0,), "a", 0))
        self.check((machine, [3], [{((), "a"): (1, 0, 0)}], shown), ("neither", (0,), "a", 0))
        machine = make_machine([[0]], 0, [])
        self.check((machine, [2], [{((), "a"): (1, 1)}], {(0,): 0}), ("lost", (0,), "a"))
        self.check((machine, [2], [{((), "a"): (0, 0)}], {(1,): 0}), ("lost", (1,), "a"))
        machine, widths, acts, shown = example()
        self.check((machine, widths, [{**acts[0], ((), "b"): (1, 0)}], shown), ("wrong", (0,), "b"))

    def test_hidden_ahead_of_all_rows_ascending(self):
        machine = make_machine([[0], [1], [2], [3]], 0, [])
        acts = [{((), "a"): (0, 1)}]
        self.check((machine, [2], acts, {(0,): 2, (1,): 0}), ("hidden", 1))
        self.check((machine, [2], acts, {(0,): 9, (7,): 0, (1,): 1}), ("hidden", 2))
        self.check((machine, [2], [{}], {(-1,): -1}), ("hidden", 0))

    def test_rows_ascending(self):
        machine = make_machine([[0]], 0, [])
        rows = [(3, 1), (-1, 9), (10, 0), (-1, -2)]
        for at in range(4):
            shown = {row: 5 for row in rows[at:] + rows[:at]}
            self.check((machine, [64, 64], [{}, {}], {**shown, (11, 0): 0}), ("state", (-1, -2)))

    def test_letter_by_letter(self):
        # Letter a leads to a wrong row, and letter b has no act.
        machine = make_machine([[0, 0], [1, 1]], 0, [])
        acts = [{((), "a"): (1, 0)}]
        self.check((machine, [2], acts, {(0,): 0, (1,): 1}), ("wrong", (0,), "a"))
        self.check((machine, [2], [{((), "b"): (1, 0)}], {(0,): 0, (1,): 1}), ("missing", (0,), "a", 0))
        self.check((machine, [3], [{((), "a"): (2, 2, 2)}], {(0,): 0, (1,): 1}), ("lost", (0,), "a"))
        acts = [{((), "a"): (0, 1, 2), ((), "b"): (0, 0, 1)}, {}]
        self.check((machine, [3, 2], acts, {(0, 0): 0, (1, 0): 1}), ("missing", (0, 0), "a", 1))

    def test_missing_and_neither_by_level(self):
        machine = make_machine([[0]], 0, [])
        odd, same = (1, 0, 0), (0, 1, 2)
        self.check((machine, [3, 3], [{}, {((0,), "a"): odd}], {(0, 0): 0}), ("missing", (0, 0), "a", 0))
        self.check((machine, [3, 3], [{((), "a"): odd}, {}], {(0, 0): 0}), ("neither", (0, 0), "a", 0))
        self.check((machine, [3, 3], [{((), "a"): same}, {}], {(0, 0): 0}), ("missing", (0, 0), "a", 1))
        acts = [{((), "a"): same}, {((0,), "a"): odd}]
        self.check((machine, [3, 3], acts, {(0, 0): 0}), ("neither", (0, 0), "a", 1))

    def test_state_then_places_by_level(self):
        machine = make_machine([[0]], 0, [])
        acts = [{}, {}]
        self.check((machine, [3, 3], acts, {(7, 7): 1, (9, 0): 0}), ("state", (7, 7)))
        self.check((machine, [3, 3], acts, {(7, 7): 0}), ("place", (7, 7), 0))
        self.check((machine, [3, 3], acts, {(2, 3): 0}), ("place", (2, 3), 1))
        self.check((machine, [3, 3], acts, {(2, -1): 0}), ("place", (2, -1), 1))

    def test_spoiled_cascades(self):
        # Each two kinds come together in one cascade, and each may come first, but for hidden.
        random = Random(72)
        pairs = set()
        cascades = [(machine, decompose(machine)) for machine in mixed_machines(73, 60, 5) if len(machine[0]) > 1]
        for times in range(40):
            for machine, cascade in cascades:
                parts = parts_of(cascade)
                for kind in random.choices(KINDS, k=random.randint(1, 3)):
                    spoil(random, kind, machine, *parts)
                spoiled = Cascade(*parts)
                faults = all_faults(machine, spoiled)
                self.assertEqual(first_fault(machine, spoiled), faults[0] if faults else None)
                pairs |= {(faults[0][0], fault[0]) for fault in faults[1:]}
        wanted = {(first, other) for first in KINDS for other in KINDS if other != "hidden"} | {("hidden", "hidden")}
        self.assertEqual(pairs, wanted)

    def test_none_for_right_cascades(self):
        for machine in machines():
            cascade = decompose(machine)
            self.assertIsNone(first_fault(machine, cascade))
            self.assertEqual(all_faults(machine, cascade), [])

    def test_what_does_not_matter(self):
        for machine in mixed_machines(74, 40, 5):
            self.assertIsNone(first_fault(machine, stirred(machine, decompose(machine))))

    def test_large_machines(self):
        random = Random(75)
        for states in (7, 39, 40):
            columns = [random.sample(range(states), states) for _ in range(3)] + [[states - 1] * states]
            machine = make_machine([list(row) for row in zip(*columns)], 3, [0])
            acts = {((), letter): tuple(entries) for letter, entries in zip("abcd", columns)}
            shown = {(state,): state for state in range(states)}
            self.assertIsNone(first_fault(machine, Cascade([states], [acts], shown)))
            acts[(), "d"] = (states - 2,) * states
            self.assertEqual(first_fault(machine, Cascade([states], [acts], shown)), ("wrong", (0,), "d"))
            del acts[(), "d"]
            self.assertEqual(first_fault(machine, Cascade([states], [acts], shown)), ("missing", (0,), "d", 0))
            shown[states - 1,] = states
            self.assertEqual(first_fault(machine, Cascade([states], [acts], shown)), ("hidden", states - 1))

    def test_many_rows_and_levels(self):
        # Ten counters of two places each, over 70 levels with one place.
        machine = make_machine([[0, 0, 0, 0]], 0, [])
        rows = [(0,) * 70 + code for code in product(range(2), repeat=10)]
        acts = [{} for _ in range(80)]
        for row in rows:
            for level, letter in product(range(80), "abcd"):
                turned = level >= 70 and all(row[70:level])
                acts[level][row[:level], letter] = (0,) if level < 70 else (1, 0) if turned else (0, 1)
        cascade = Cascade([1] * 70 + [2] * 10, acts, {row: 0 for row in rows})
        self.assertIsNone(first_fault(machine, cascade))
        self.assertEqual(group_sizes(machine, cascade), [1] * 70 + [2] * 10)

    def test_no_rows(self):
        machine = make_machine([[0], [1]], 0, [])
        for cascade in (Cascade([], [], {}), Cascade([2], [{((), "a"): (0, 1)}], {})):
            self.assertEqual(first_fault(machine, cascade), ("hidden", 0))

    def test_no_levels(self):
        one = make_machine([[0, 0, 0, 0]], 0, [0])
        self.assertIsNone(first_fault(one, Cascade([], [], {(): 0})))
        self.assertEqual(first_fault(one, Cascade([], [], {(): 1})), ("hidden", 0))
        two = make_machine([[0], [0]], 0, [])
        self.assertEqual(first_fault(two, Cascade([], [], {(): 0})), ("hidden", 1))

    def test_shown_in_several_rows(self):
        machine = make_machine([[0]], 0, [])
        acts = [{((), "a"): (1, 0)}]
        self.assertIsNone(first_fault(machine, Cascade([2], acts, {(0,): 0, (1,): 0})))

    def test_nothing_is_changed(self):
        machine, *parts = example()
        cascade = Cascade(*parts)
        first_fault(machine, cascade)
        self.assertEqual((cascade.widths, cascade.acts, cascade.shown), ((2,), tuple(parts[1]), parts[2]))

    def test_examples(self):
        machine = make_machine([[1, 0], [1, 1]], 0, [])
        cascade = Cascade([2], [{((), "a"): (1, 1), ((), "b"): (0, 1)}], {(0,): 0, (1,): 1})
        self.assertIs(first_fault(machine, cascade) is None, True)
        cascade = Cascade([2], [{((), "a"): (1, 1), ((), "b"): (1, 0)}], {(0,): 0, (1,): 1})
        self.assertEqual(first_fault(machine, cascade), ("wrong", (0,), "b"))


class TurnsTest(unittest.TestCase):
    def check(self, machine, cascade):
        groups = groups_of(machine, cascade)
        for level in range(len(cascade.widths)):
            expected = [act for act in used(machine, cascade, level) if is_turn(act)]
            found = turns(machine, cascade, level)
            self.assertEqual(found, expected)
            found.clear()
            self.assertEqual(turns(machine, cascade, level), expected)
        sizes = group_sizes(machine, cascade)
        self.assertEqual(sizes, [len(group) for group in groups])
        sizes.append(0)
        self.assertEqual(group_sizes(machine, cascade), sizes[:-1])

    def test_of_decomposed_machines(self):
        for machine in mixed_machines(76, 60, 5):
            cascade = decompose(machine)
            self.check(machine, cascade)
            self.check(machine, stirred(machine, cascade))

    def test_of_split_pieces(self):
        for acts in ([(1, 2, 0), (1, 0, 2), (2, 2, 2)], [(1, 0)], [(0, 0)], [(0,)], [(1, 2, 3, 0), (1, 0, 2, 3)]):
            machine = piece_machine(acts)
            self.check(machine, split(acts))
            self.check(machine, stirred(machine, split(acts)))

    def test_written_out(self):
        machine = make_machine([[0, 0]], 0, [])
        acts = [
            {((), "a"): (1, 2, 0), ((), "b"): (0, 0, 0), ((), "c"): (1, 0, 2)},
            {
                ((0,), "a"): (1, 0), ((1,), "a"): (0, 0), ((2,), "a"): (0, 1), ((3,), "a"): (0, 1),
                ((0,), "b"): (1, 0), ((1,), "b"): (1, 1), ((2,), "b"): (1, 0),
            },
            {(prefix, letter): (0,) for prefix in product(range(3), range(2)) for letter in "ab"},
        ]
        cascade = Cascade([3, 2, 1], acts, {row: 0 for row in product(range(3), range(2), range(1))})
        self.assertIsNone(first_fault(machine, cascade))
        self.assertEqual(turns(machine, cascade, 0), [(1, 2, 0)])
        self.assertEqual(turns(machine, cascade, 1), [(0, 1), (1, 0)])
        self.assertEqual(turns(machine, cascade, 2), [(0,)])
        self.assertEqual(group_sizes(machine, cascade), [3, 2, 1])

    def test_only_resets(self):
        machine = make_machine([[0, 1], [0, 1]], 0, [])
        cascade = Cascade([2], [{((), "a"): (0, 0), ((), "b"): (1, 1), ((), "c"): (1, 0)}], {(0,): 0, (1,): 1})
        self.assertIsNone(first_fault(machine, cascade))
        self.assertEqual((turns(machine, cascade, 0), group_sizes(machine, cascade)), ([], [1]))

    def test_no_levels(self):
        self.assertEqual(group_sizes(make_machine([[0]], 0, []), Cascade([], [], {(): 0})), [])

    def test_large_groups(self):
        for columns, size in (
            ([(1, 2, 3, 4, 5, 0), (1, 0, 2, 3, 4, 5)], 720),
            ([tuple((i + 1) % 40 for i in range(40)), tuple(39 - i for i in range(40))], 80),
        ):
            machine = make_machine([list(row) for row in zip(*columns)], 0, [])
            states = len(columns[0])
            acts = [{((), "a"): columns[0], ((), "b"): columns[1]}]
            cascade = Cascade([states], acts, {(state,): state for state in range(states)})
            self.assertIsNone(first_fault(machine, cascade))
            self.assertEqual(turns(machine, cascade, 0), sorted(columns))
            self.assertEqual(group_sizes(machine, cascade), [size])


if __name__ == "__main__":
    unittest.main()
