"""Points 24 and 25, and the interface of telling.py."""

import unittest
from random import Random

from turnsandthrows.errors import GoesRound, TooManyStates
from turnsandthrows.least import least
from turnsandthrows.lines import check_lines, holds
from turnsandthrows.machines import make_machine
from turnsandthrows.rings import is_ring
from turnsandthrows.telling import lines_of, machine_of

from tests.cascades import columns_machine, mixed_machines
from tests.sentences import before_start, random_sentences, reachable, rows_of_truths, slow_truths
from tests.tools import all_that_words_do, cycle_lengths, every_machine, every_word, random_machines, run


def goes_round(machine):
    """Whether the machine has a ring."""
    return any(cycle_lengths(row) != {1} for row in all_that_words_do(machine))


def widened(machine, random, states):
    """A machine with so many states, accepting the same words; some states only it has, and these go round."""
    steps, start, good = machine
    letters = range(len(steps[0]))
    copies = list(range(len(steps)))
    while len(copies) < states - 2:
        copies.append(random.choice(reachable(machine)))
    rows = []
    for state in copies:
        there = [[at for at, copy in enumerate(copies) if copy == steps[state][k]] for k in letters]
        rows.append([random.choice(places) for places in there])
    rows.append([len(copies) + 1 for _ in letters])
    rows.append([len(copies) for _ in letters])
    marks = [at for at, copy in enumerate(copies) if copy in good] + [len(copies)]
    return make_machine(rows, start, marks)


class MachineOfTest(unittest.TestCase):
    def test_against_slow_truths(self):
        lengths = {1: 9, 2: 6, 3: 4, 4: 3}
        for at, lines in enumerate(random_sentences(111, 320, 14)):
            count = at % 4 + 1
            machine = machine_of(lines, count)
            self.assertEqual(len(machine[0][0]), count)
            for word in every_word("abcd"[:count], lengths[count]):
                self.assertIs(run(machine, 0, word) in machine[2], slow_truths(lines, word)[-1])

    def test_against_holds(self):
        random = Random(112)
        for lines in random_sentences(113, 120, 40):
            machine = machine_of(lines, 4)
            for _ in range(40):
                word = "".join(random.choice("abcd") for _ in range(random.randint(0, 40)))
                self.assertIs(run(machine, 0, word) in machine[2], holds(lines, word))

    def test_least_and_numbered(self):
        sizes = set()
        for at, lines in enumerate(random_sentences(114, 300, 25)):
            machine = machine_of(lines, at % 4 + 1)
            self.assertEqual(least(machine), machine)
            self.assertFalse(len(machine[0]) < 6 and at % 4 < 3 and goes_round(machine))
            sizes.add(len(machine[0]))
        self.assertLessEqual({1, 2, 3, 4, 5}, sizes)

    def test_kinds(self):
        steps, start, good = machine_of((("letter", "b"), ("before", 0)), 2)
        self.assertEqual([type(each) for each in (steps, *steps, start, good)], [tuple] * 5 + [int, tuple])

    def test_all_and_no_words(self):
        for count in range(1, 5):
            step = (0,) * count
            self.assertEqual(machine_of((("true",),), count), ((step,), 0, (0,)))
            self.assertEqual(machine_of((("true",), ("not", 0)), count), ((step,), 0, ()))
            self.assertEqual(machine_of((("start",),), count), (((1,) * count, (1,) * count), 0, (0,)))

    def test_letters_that_the_machine_does_not_have(self):
        for letter in "bcd":
            self.assertEqual(machine_of((("letter", letter),), 1), (((0,),), 0, ()))
            lines = (("letter", letter), ("not", 0))
            self.assertEqual(machine_of(lines, 1), (((0,),), 0, (0,)))
        lines = (("letter", "d"), ("letter", "b"), ("or", 0, 1))
        self.assertEqual(machine_of(lines, 1), (((0,),), 0, ()))
        self.assertEqual(machine_of(lines, 2), (((0, 1), (0, 1)), 0, (1,)))
        self.assertEqual(machine_of(lines, 3), (((0, 1, 0), (0, 1, 0)), 0, (1,)))
        self.assertEqual(machine_of(lines, 4), (((0, 1, 0, 1), (0, 1, 0, 1)), 0, (1,)))

    def test_too_many_states(self):
        for count in (1, 2, 4):
            for length in range(36, 39):
                machine = machine_of(before_start(length), count)
                self.assertEqual((len(machine[0]), machine[2]), (length + 2, (length,)))
            for length in (39, 40, 41, 100, 390):
                with self.assertRaises(TooManyStates):
                    machine_of(before_start(length), count)

    def test_too_many_states_of_several_letters(self):
        # Which of the last letters were a: the least machine has a state for each possible row of them.
        for length in range(1, 8):
            lines = (("letter", "a"), *(("before", at) for at in range(length - 1)))
            if length <= 5:
                self.assertEqual(len(machine_of(lines, 2)[0]), 2 ** length)
            else:
                with self.assertRaises(TooManyStates):
                    machine_of(lines, 2)

    def test_more_rows_than_states(self):
        lines = before_start(120)
        for last, good in ((("or", 120, 121), (0,)), (("and", 120, 121), ())):
            self.assertEqual(machine_of((*lines, ("not", 120), last), 2), (((0, 0),), 0, good))
        # Whether there were at least three letters; the other lines are not spoken of.
        lines = (*lines, ("true",), ("before", 121), ("before", 122), ("before", 123))
        self.assertGreater(rows_of_truths(lines, "ab", 400), 40)
        self.assertEqual(machine_of(lines, 2), (((1, 1), (2, 2), (3, 3), (3, 3)), 0, (3,)))
        # The last eight letters, of which only the last one matters.
        lines = (("letter", "a"), *(("before", at) for at in range(7)), ("or", 7, 6), ("and", 8, 0), ("or", 9, 0))
        self.assertEqual(machine_of(lines, 2), (((1, 0), (1, 0)), 0, (1,)))

    def test_four_hundred_rows(self):
        # One line of these is true at each moment up to 399, none later on.
        lines = before_start(399)
        for count in (1, 4):
            self.assertEqual(machine_of((*lines, ("and", 399, 398)), count), (((0,) * count,), 0, ()))
            with self.assertRaises(TooManyStates):
                machine_of((*lines, ("or", 399, 398)), count)
        machine = machine_of((*lines, ("letter", "b"), ("or", 400, 5)), 2)
        self.assertEqual(least(machine), machine)
        for word in every_word("ab", 7):
            self.assertIs(run(machine, 0, word) in machine[2], len(word) == 5 or word.endswith("b"))

    def test_long_sentences(self):
        lines = [("letter", "b"), ("letter", "a"), ("before", 1), ("since", 2, 0)]
        while len(lines) < 39998:
            lines.append(("or", len(lines) - 1, 3) if len(lines) % 2 else ("and", len(lines) - 1, len(lines) - 1))
        lines.extend([("since", 0, len(lines) - 1), ("or", len(lines), len(lines) - 1)])
        self.assertEqual(machine_of(check_lines(lines), 2), machine_of(tuple(lines[:4]), 2))
        lines = [("letter", "b")]
        while len(lines) < 30000:
            lines.append(("since", len(lines) - 1, 0))
        self.assertEqual(machine_of(tuple(lines), 3), (((0, 1, 0), (0, 1, 0)), 0, (1,)))

    def test_the_sentence_stays(self):
        lines = (("letter", "b"), ("before", 0))
        machine_of(lines, 2)
        self.assertEqual(lines, (("letter", "b"), ("before", 0)))

    def test_example(self):
        machine = machine_of((("letter", "b"), ("before", 0)), 2)
        self.assertEqual(machine, (((0, 1), (2, 3), (0, 1), (2, 3)), 0, (2, 3)))


class LinesOfTest(unittest.TestCase):
    def check(self, machine, rows=False):
        """Check the sentence of a machine whose least machine does not go round."""
        expected = least(machine)
        lines = lines_of(machine)
        self.assertIs(type(lines), tuple)
        self.assertLessEqual(len(lines), 40000)
        self.assertEqual(check_lines(list(lines)), lines)
        letters = "abc"[:len(machine[0][0])]
        self.assertEqual(machine_of(lines, len(letters)), expected)
        if rows:
            self.assertLessEqual(rows_of_truths(lines, letters, 400), 400)
            for word in every_word(letters, 3):
                self.assertIs(slow_truths(lines, word)[-1], run(machine, machine[1], word) in machine[2])

    def refused(self, machine):
        with self.assertRaises(GoesRound) as caught:
            lines_of(machine)
        word, states = caught.exception.ring
        self.assertIs(is_ring(least(machine), word, states), True)

    def check_or_refused(self, machine, rows=False):
        if goes_round(least(machine)):
            self.refused(machine)
        else:
            self.check(machine, rows)

    def test_small_machines(self):
        for machine in [*every_machine(1, 3), *every_machine(2, 1), *every_machine(2, 2)]:
            self.check_or_refused(machine)
        for machine in list(every_machine(3, 2))[::41]:
            self.check_or_refused(machine)

    def test_many_machines(self):
        for machine in random_machines(121, 500, 5, 3):
            self.check_or_refused(machine)
        random = Random(122)
        kinds = ("throw", "climb", "one")
        for steps, _, _ in [*mixed_machines(123, 900, 5), *mixed_machines(124, 900, 5, kinds)]:
            good = [state for state in range(len(steps)) if random.randrange(2)]
            self.check_or_refused((steps, random.randrange(len(steps)), tuple(good)))

    def test_rows_of_truths(self):
        random = Random(125)
        for steps, _, _ in mixed_machines(126, 80, 5, ("throw", "climb", "one")):
            good = [state for state in range(len(steps)) if random.randrange(2)]
            self.check_or_refused((steps, random.randrange(len(steps)), tuple(good)), True)

    def test_five_states(self):
        for columns in (
            [(1, 2, 3, 4, 4), (0, 0, 1, 2, 3), (2, 2, 2, 2, 2)],
            [(1, 2, 3, 4, 4), (0, 0, 1, 2, 3), (0, 0, 2, 4, 4)],
            [(1, 1, 2, 3, 4), (0, 2, 2, 3, 4), (0, 1, 3, 4, 4)],
            [(0, 0, 1, 2, 3), (4, 4, 4, 4, 4), (0, 1, 2, 2, 3)],
            [(1, 1, 3, 3, 4), (0, 2, 2, 4, 4), (0, 0, 1, 3, 3)],
        ):
            for start in range(5):
                for good in ((0,), (4,), (1, 3), (0, 2, 4), (2,)):
                    self.check_or_refused((columns_machine(columns)[0], start, good), start == 0)

    def test_no_words_and_all_words(self):
        for letters in (1, 2, 3):
            for good in ([], [0]):
                self.check(make_machine([[0] * letters], 0, good))
        self.check(make_machine([[1, 1], [2, 2], [0, 0]], 0, [0, 1, 2]))

    def test_larger_machines(self):
        random = Random(127)
        machines = [machine for machine in random_machines(128, 60, 5, 3)]
        machines += [(steps, 0, (len(steps) - 1,)) for steps, _, _ in mixed_machines(129, 60, 5, ("throw", "climb", "one"))]
        for machine in machines:
            for states in (8, 23, 40):
                wide = widened(machine, random, states)
                self.assertEqual((len(wide[0]), least(wide)), (states, least(machine)))
                self.assertTrue(goes_round(wide) if states == 8 else True)
                self.check_or_refused(wide)

    def test_goes_round(self):
        for count in range(2, 6):
            circle = make_machine([[(state + 1) % count] for state in range(count)], 0, [0])
            self.refused(circle)
            wide = make_machine([[(state + 1) % (8 * count)] for state in range(8 * count)], 3,
                                list(range(0, 8 * count, count)))
            self.refused(wide)
        self.refused(make_machine([[1, 0], [0, 1]], 1, [1]))
        # The first letter throws, and only words with both letters go round.
        self.refused(make_machine([[1, 1, 0], [2, 1, 0], [2, 0, 0]], 0, [1]))

    def test_only_states_that_the_least_machine_does_not_have_go_round(self):
        self.check(make_machine([[0], [2], [1]], 0, [0, 2]))
        self.check(make_machine([[1], [0]], 0, [0, 1]))
        self.check(make_machine([[1, 2], [2, 1], [1, 2], [4, 3], [3, 4]], 0, [1, 2, 3]))

    def test_the_machine_stays_and_the_answer_repeats(self):
        machine = make_machine([[1, 0], [2, 0], [2, 0]], 0, [2])
        self.assertEqual(lines_of(machine), lines_of(machine))
        self.assertEqual(machine, (((1, 0), (2, 0), (2, 0)), 0, (2,)))


if __name__ == "__main__":
    unittest.main()
