"""Points 22 and 23, and the interface of lines.py."""

import unittest
from random import Random

from turnsandthrows.errors import InvalidLines
from turnsandthrows.lines import check_lines, holds, truths

from tests.sentences import before_start, random_sentences, slow_truths
from tests.tools import every_word

EACH_KIND = [
    ("letter", "a"), ("start",), ("true",), ("not", 0), ("and", 1, 2), ("or", 0, 0), ("before", 5), ("since", 6, 0),
]


class CheckLinesTest(unittest.TestCase):
    def refused(self, *lines):
        with self.assertRaises(InvalidLines) as caught:
            check_lines(list(lines))
        self.assertEqual([type(each) for each in caught.exception.args], [str])

    def test_each_kind(self):
        sentence = check_lines(EACH_KIND)
        self.assertEqual(sentence, tuple(EACH_KIND))
        self.assertIs(type(sentence), tuple)
        self.assertEqual({type(line) for line in sentence}, {tuple})
        for letter in "abcd":
            self.assertEqual(check_lines([("letter", letter)]), (("letter", letter),))
        for kind in ("start", "true"):
            self.assertEqual(check_lines([(kind,)]), ((kind,),))

    def test_the_list_stays(self):
        lines = list(EACH_KIND)
        sentence = check_lines(lines)
        self.assertEqual(lines, EACH_KIND)
        lines.clear()
        self.assertEqual(sentence, tuple(EACH_KIND))

    def test_random_sentences(self):
        for lines in random_sentences(101, 200, 30):
            self.assertEqual(check_lines(list(lines)), lines)

    def test_no_lines(self):
        self.refused()

    def test_number_of_lines(self):
        self.assertEqual(check_lines([("true",)] * 40000), (("true",),) * 40000)
        long = [("start",)] + [("since", at, at // 2) for at in range(39999)]
        self.assertEqual(check_lines(long), tuple(long))
        self.refused(*([("true",)] * 40001))
        self.refused(*long, ("true",))

    def test_empty_tuple(self):
        self.refused(())
        self.refused(("start",), ())
        self.refused((), ("start",))

    def test_other_words(self):
        for word in ("", "a", "Letter", "letter ", "after", "xor", "false", "START", "since\n"):
            self.refused((word,))
            self.refused((word, "a"))
            for entries in ((), (0,), (0, 0), ("a",)):
                self.refused(("true",), (word, *entries))

    def test_number_of_entries(self):
        counts = {"letter": 1, "start": 0, "true": 0, "not": 1, "before": 1, "and": 2, "or": 2, "since": 2}
        for word, count in counts.items():
            for other in range(5):
                entries = ("a" if word == "letter" else 0,) * other
                if other == count:
                    self.assertEqual(check_lines([("true",), (word, *entries)])[1], (word, *entries))
                else:
                    self.refused(("true",), (word, *entries))

    def test_entries_that_are_no_letter(self):
        for entry in ("", "e", "A", "ab", "abcd", "a ", " ", "letter", 0, 1, -1):
            self.refused(("letter", entry))
            self.refused(("true",), ("letter", entry))

    def test_texts_where_numbers_stand(self):
        for entry in ("a", "0", "", "true"):
            for word in ("not", "before"):
                self.refused(("true",), (word, entry))
            for word in ("and", "or", "since"):
                for entries in ((entry, 0), (0, entry), (entry, entry)):
                    self.refused(("true",), (word, *entries))

    def test_numbers_that_are_none_before(self):
        for entry in (-1, -2, 2, 3, 40000, 10 ** 30, -10 ** 30):
            for word in ("not", "before"):
                self.refused(("true",), ("start",), (word, entry))
            for word in ("and", "or", "since"):
                for entries in ((entry, 0), (1, entry), (entry, entry)):
                    self.refused(("true",), ("start",), (word, *entries))
        self.refused(("not", 0))
        self.refused(("true",), ("not", 1), ("true",))
        self.refused(("since", 0, 0))

    def test_the_line_that_is_none_may_stand_anywhere(self):
        for at in range(len(EACH_KIND)):
            self.refused(*EACH_KIND[:at], ("not", at), *EACH_KIND[at:])


class TruthsTest(unittest.TestCase):
    def check(self, lines, word, expected):
        marks = "".join("1" if mark else "0" for mark in truths(lines, word))
        self.assertEqual(marks, expected)
        self.assertIs(holds(lines, word), expected[-1] == "1")

    def test_each_kind(self):
        self.check((("letter", "a"),), "abcdaa", "0100011")
        self.check((("letter", "d"),), "abcdaa", "0000100")
        self.check((("start",),), "aba", "1000")
        self.check((("true",),), "aba", "1111")
        self.check((("letter", "b"), ("not", 0)), "abba", "11001")
        self.check((("letter", "a"), ("start",), ("not", 0), ("and", 0, 2)), "ab", "000")
        self.check((("letter", "a"), ("letter", "b"), ("or", 0, 1)), "acbb", "01011")
        self.check((("true",), ("letter", "a"), ("not", 1), ("and", 0, 2)), "aab", "1001")
        self.check((("letter", "a"), ("before", 0)), "aaba", "00110")
        self.check((("start",), ("before", 0)), "aaba", "01000")
        self.check((("true",), ("before", 0)), "aab", "0111")
        self.check((("letter", "a"), ("letter", "b"), ("since", 0, 1)), "abaacaaba", "0011100011")

    def test_since(self):
        # The second line alone is enough at its own moment; the first one counts behind it only.
        for first, expected in ((("true",), "00111"), (("start",), "00100")):
            self.check((first, ("letter", "b"), ("since", 0, 1)), "abaa", expected)
        self.check((("true",), ("start",), ("since", 0, 1)), "aba", "1111")
        self.check((("letter", "a"), ("start",), ("since", 0, 1)), "aaba", "11100")
        self.check((("true",), ("not", 0), ("since", 0, 1)), "aba", "0000")
        self.check((("letter", "a"), ("since", 0, 0)), "aaba", "01101")

    def test_empty_word(self):
        for lines, expected in (
            ((("letter", "a"),), "0"),
            ((("start",),), "1"),
            ((("true",),), "1"),
            ((("true",), ("before", 0)), "0"),
            ((("true",), ("before", 0), ("not", 1)), "1"),
            ((("true",), ("start",), ("since", 0, 1)), "1"),
            ((("start",), ("not", 0), ("since", 0, 1)), "0"),
        ):
            self.check(lines, "", expected)

    def test_nested(self):
        # Two letters a, one right behind the other, and no b since then.
        lines = (("letter", "a"), ("before", 0), ("and", 0, 1), ("letter", "b"), ("not", 3), ("since", 4, 2))
        self.check(lines, "abaacbaac", "0000110011")
        # Some letter a ahead of the last letter b.
        lines = (("letter", "a"), ("true",), ("since", 1, 0), ("before", 2), ("letter", "b"), ("and", 3, 4),
                 ("since", 1, 5), ("before", 6))
        self.check(lines, "bcabcb", "0000011")

    def test_against_slow_truths(self):
        random = Random(102)
        for lines in random_sentences(103, 600, 20):
            word = "".join(random.choice("abcd"[:random.randint(1, 4)]) for _ in range(random.randint(0, 12)))
            expected = slow_truths(lines, word)
            self.assertEqual(truths(lines, word), expected)
            self.assertEqual({type(each) for each in truths(lines, word)}, {bool})
            self.assertIs(holds(lines, word), expected[-1])

    def test_all_short_words(self):
        for lines in random_sentences(104, 60, 9):
            for word in every_word("abc", 4):
                self.assertEqual(truths(lines, word), slow_truths(lines, word))

    def test_since_of_all_columns(self):
        # Letter a: the first line alone; b: the second one; c: both; d: none.
        lines = (("letter", "a"), ("letter", "b"), ("letter", "c"), ("or", 0, 2), ("or", 1, 2), ("since", 3, 4))
        for word in every_word("abcd", 6):
            self.assertEqual(truths(lines, word), slow_truths(lines, word))

    def test_long_words(self):
        lines = (("letter", "a"), ("letter", "b"), ("since", 0, 1), ("before", 2), ("not", 3))
        for word in ("a" * 200, "b" + "a" * 199, "ab" * 100, "abcd" * 50, "a" * 99 + "b" + "a" * 100):
            self.assertEqual(truths(lines, word), slow_truths(lines, word))
            self.assertEqual(len(truths(lines, word)), 201)

    def test_lines_that_are_spoken_of_more_than_once(self):
        lines = (("letter", "a"), ("before", 0), ("and", 0, 1), ("or", 2, 0), ("since", 3, 0), ("and", 4, 4))
        self.check(lines, "aabaca", "0110101")
        doubled = [("letter", "a")] + [("or", at, at) for at in range(300)]
        self.check(tuple(doubled), "abaa", "01011")

    def test_many_lines(self):
        lines = [("letter", "a")]
        while len(lines) < 40000:
            lines.append(("not", len(lines) - 1) if len(lines) % 3 else ("or", len(lines) - 1, 0))
        truth, word = True, "ab" * 99 + "aa"
        for at in range(1, 40000):
            truth = not truth if at % 3 else True
        self.assertIs(holds(tuple(lines), word), truth)
        self.assertEqual(truths(before_start(39999), "a" * 200), [False] * 201)

    def test_each_list_is_its_own(self):
        lines = (("true",),)
        truths(lines, "ab").clear()
        self.assertEqual(truths(lines, "ab"), [True] * 3)

    def test_examples(self):
        lines = (("letter", "b"), ("not", 0), ("letter", "a"), ("since", 1, 2))
        self.assertIs(holds(lines, "bacb"), False)
        self.assertEqual(truths(lines, "bacb"), [False, False, True, True, False])


if __name__ == "__main__":
    unittest.main()
