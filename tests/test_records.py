"""Point 44, and the interface of records.py."""

import unittest
from random import Random

from turnsandthrows.cascade import Cascade
from turnsandthrows.decomposing import decompose
from turnsandthrows.pieces import split
from turnsandthrows.records import read_cascade, write_cascade

from tests.cascades import machines, parts_of


def slow_text(cascade):
    """The text of the cascade, part by part, by the words of point 44."""
    def joined(numbers):
        return "e" if numbers == () else ".".join(f"{number:d}" for number in numbers)

    text = " ".join(map(str, cascade.widths))
    for table in cascade.acts:
        rows = [f"{joined(prefix)} {letter} {joined(table[prefix, letter])}" for prefix, letter in sorted(table)]
        text += "|" + ",".join(rows)
    return text + "|" + ",".join(f"{joined(row)}={cascade.shown[row]}" for row in sorted(cascade.shown))


class RecordTest(unittest.TestCase):
    def check(self, cascade, text=None):
        """The text must be that of the cascade, and be read as it again."""
        before = parts_of(cascade)
        told = write_cascade(cascade)
        self.assertEqual(told, slow_text(cascade) if text is None else text)
        self.assertEqual(parts_of(cascade), before)
        again = read_cascade(told)
        self.assertIsInstance(again, Cascade)
        self.assertEqual((again.widths, again.acts, again.shown), (cascade.widths, cascade.acts, cascade.shown))
        self.assertEqual(write_cascade(again), told)

    def test_example(self):
        self.check(Cascade([2], [{((), "a"): (1, 1), ((), "b"): (0, 1)}], {(0,): 0, (1,): 1}), "2|e a 1.1,e b 0.1|0=0,1=1")

    def test_no_level(self):
        self.check(Cascade([], [], {(): 0}), "|e=0")
        self.check(Cascade([], [], {(): -12}), "|e=-12")
        self.check(Cascade([], [], {}), "|")

    def test_levels_without_acts(self):
        self.check(Cascade([2], [{}], {(0,): 0}), "2||0=0")
        self.check(Cascade([2, 3, 10], [{}, {}, {}], {}), "2 3 10||||")
        self.check(Cascade([1, 2], [{}, {((0,), "d"): (0, 1)}], {}), "1 2||0 d 0.1|")
        self.check(Cascade([1, 2], [{((), "d"): (0,)}, {}], {}), "1 2|e d 0||")

    def test_no_shown_rows(self):
        self.check(Cascade([1], [{((), "a"): (0,)}], {}), "1|e a 0|")

    def test_negative_integers(self):
        cascade = Cascade([2, 2], [{}, {((-1,), "a"): (1, 0), ((-12,), "c"): (0, 0), ((0,), "b"): (1, 1)}],
                          {(-1, 0): -7, (0, -1): 3, (-10, -2): -40, (-2, 5): 0})
        self.check(cascade, "2 2||-12 c 0.0,-1 a 1.0,0 b 1.1|-10.-2=-40,-2.5=0,-1.0=-7,0.-1=3")

    def test_the_order_is_that_of_integers(self):
        acts = {((10,), "a"): (0,), ((9,), "b"): (0,), ((9,), "a"): (0,), ((100,), "a"): (0,), ((-2,), "d"): (0,)}
        shown = {(10, 2): 0, (9, 10): 1, (9, 9): 2, (100, 0): 3, (-3, 0): 4, (-20, 0): 5}
        self.check(Cascade([64, 1], [{}, acts], shown),
                   "64 1||-2 d 0,9 a 0,9 b 0,10 a 0,100 a 0|-20.0=5,-3.0=4,9.9=2,9.10=1,10.2=0,100.0=3")
        # The prefix stands ahead of the letter.
        self.check(Cascade([2, 1], [{}, {((1,), "a"): (0,), ((0,), "b"): (0,)}], {}), "2 1||0 b 0,1 a 0|")

    def test_more_than_one_digit(self):
        width = 64
        act = tuple(range(width))[::-1]
        self.check(Cascade([width], [{((), "a"): act}], {(63,): 39}), f"64|e a {'.'.join(map(str, act))}|63=39")
        self.check(Cascade([2], [{}], {(10 ** 30,): -10 ** 30}), f"2||1{'0' * 30}=-1{'0' * 30}")

    def test_cascades_of_the_program(self):
        for machine in list(machines())[::6]:
            self.check(decompose(machine))
        self.check(split([(1, 2, 0), (0, 0, 0)]))
        self.check(split([(1, 2, 3, 4, 0), (1, 0, 2, 3, 4), (3, 3, 3, 3, 3)]))

    def test_random_cascades(self):
        random = Random(151)
        for _ in range(200):
            levels = random.randint(0, 5)
            widths = [random.randint(1, 12) for _ in range(levels)]
            acts = []
            for level, width in enumerate(widths):
                table = {}
                for _ in range(random.choice((0, 1, 8))):
                    prefix = tuple(random.randint(-15, 15) for _ in range(level))
                    table[prefix, random.choice("abcd")] = tuple(random.randrange(width) for _ in range(width))
                acts.append(table)
            rows = [tuple(random.randint(-15, 15) for _ in range(levels)) for _ in range(random.choice((0, 1, 12)))]
            self.check(Cascade(widths, acts, {row: random.randint(-50, 50) for row in rows}))

    def test_what_was_read_is_a_cascade_of_its_own(self):
        text = "2|e a 1.1,e b 0.1|0=0,1=1"
        first, second = read_cascade(text), read_cascade(text)
        first.shown.clear()
        first.acts[0].clear()
        self.assertEqual(write_cascade(second), text)
        self.assertEqual(second.step((0,), "a"), (1,))


if __name__ == "__main__":
    unittest.main()
