"""Points 26 to 28, and the interface of formulas.py."""

import unittest
from itertools import product
from random import Random

from turnsandthrows.errors import SyntaxFault
from turnsandthrows.formulas import read_formula, write_formula
from turnsandthrows.lines import check_lines, truths

from tests.sentences import random_sentences, slow_truths
from tests.tools import every_word

BETWEEN = ("or", "and", "since")


def random_tree(random, depth):
    """A formula as nested tuples."""
    if depth == 0 or random.randrange(4) == 0:
        return random.choice([("letter", "a"), ("letter", "b"), ("letter", "c"), ("letter", "d"), ("start",), ("true",)])
    kind = random.choice(("not", "before", *BETWEEN, *BETWEEN))
    count = 1 if kind in ("not", "before") else 2
    return (kind, *(random_tree(random, depth - 1) for _ in range(count)))


def tokens_of(tree, random, rank=0):
    """The tokens of the tree, with no more parentheses than needed, or with some more."""
    kind = tree[0]
    if kind in BETWEEN:
        own = BETWEEN.index(kind)
        inner = [*tokens_of(tree[1], random, own), kind, *tokens_of(tree[2], random, own + 1)]
    elif kind in ("not", "before"):
        own, inner = 3, [kind, *tokens_of(tree[1], random, 3)]
    else:
        own, inner = 3, [tree[-1]]
    return ["(", *inner, ")"] if own < rank or random.randrange(6) == 0 else inner


def spaced(tokens, random):
    """A text with the tokens, with spaces where they must stand, and some where they may."""
    text = " " * random.randrange(3)
    for token in tokens:
        needed = text[-1:].isalpha() and token.isalpha()
        text += " " * max(needed, random.choice((0, 0, 1, 2))) + token
    return text + " " * random.randrange(3)


def lines_in_order(tree, lines):
    """Write the lines of the tree in the order of point 27, and return the number of its own one."""
    if tree[0] in ("letter", "start", "true"):
        line = tree
    else:
        line = (tree[0], *[lines_in_order(part, lines) for part in tree[1:]])
    if line not in lines:
        lines.append(line)
    return lines.index(line)


def levels_and_fault(tokens):
    """The most levels that are open at once, and the place of the first token that no formula goes on with.

    The place is the number of tokens if the text only ends too early, and None if it is a formula.
    """
    stack, most, wants = [], 0, True
    for at, token in enumerate(tokens):
        if wants and token in ("(", "not", "before"):
            if len(stack) == 12:
                return most, at
            stack.append(token)
            most = max(most, len(stack))
        elif wants and token in ("a", "b", "c", "d", "start", "true"):
            wants = False
        elif not wants and token in BETWEEN:
            wants = True
        elif not wants and token == ")" and "(" in stack:
            stack.pop()
        else:
            return most, at
        while not wants and stack and stack[-1] != "(":
            stack.pop()
    return most, len(tokens) if wants or stack else None


def written_out(lines, at=-1):
    """The formula that writes out each line anew, as the interface tells it."""
    kind, *entries = lines[at]
    if kind == "letter":
        return entries[0]
    texts = [written_out(lines, entry) for entry in entries]
    texts = [f"( {text} )" if " " in text else text for text in texts]
    return " ".join([kind, *texts] if len(texts) < 2 else [texts[0], kind, texts[1]])


def split_up(text):
    """The tokens of a text in which they have spaces between them."""
    return text.replace("(", " ( ").replace(")", " ) ").split()


class ReadTest(unittest.TestCase):
    def check(self, text, *lines):
        self.assertEqual(read_formula(text), lines)

    def test_plain(self):
        for letter in "abcd":
            self.check(letter, ("letter", letter))
        self.check("start", ("start",))
        self.check("true", ("true",))
        self.check("not a", ("letter", "a"), ("not", 0))
        self.check("before a", ("letter", "a"), ("before", 0))
        self.check("not before not d", ("letter", "d"), ("not", 0), ("before", 1), ("not", 2))
        self.check("(a)", ("letter", "a"))
        self.check("((start))", ("start",))

    def test_between(self):
        for word in BETWEEN:
            self.check(f"a {word} b", ("letter", "a"), ("letter", "b"), (word, 0, 1))
            self.check(f"b {word} b", ("letter", "b"), (word, 0, 0))

    def test_grouping_to_the_left(self):
        a, b, c = [("letter", letter) for letter in "abc"]
        for word in BETWEEN:
            self.check(f"a {word} b {word} c", a, b, (word, 0, 1), c, (word, 2, 3))
            self.check(f"a {word} (b {word} c)", a, b, c, (word, 1, 2), (word, 0, 3))
            self.check(f"a {word} b {word} c {word} a", a, b, (word, 0, 1), c, (word, 2, 3), (word, 4, 0))

    def test_what_binds_more(self):
        a, b, c = [("letter", letter) for letter in "abc"]
        for less, more in (("or", "and"), ("or", "since"), ("and", "since")):
            self.check(f"a {less} b {more} c", a, b, c, (more, 1, 2), (less, 0, 3))
            self.check(f"a {more} b {less} c", a, b, (more, 0, 1), c, (less, 2, 3))
            self.check(f"(a {less} b) {more} c", a, b, (less, 0, 1), c, (more, 2, 3))
            self.check(f"a {more} (b {less} c)", a, b, c, (less, 1, 2), (more, 0, 3))
        for sign in ("not", "before"):
            self.check(f"{sign} a since b", a, (sign, 0), b, ("since", 1, 2))
            self.check(f"a since {sign} b", a, b, (sign, 1), ("since", 0, 2))
            self.check(f"{sign} (a since b)", a, b, ("since", 0, 1), (sign, 2))

    def test_spaces(self):
        lines = (("letter", "a"), ("letter", "b"), ("since", 0, 1), ("not", 2))
        for text in ("not(a since b)", "  not  ( a   since b )  ", "not (a since b)", " not( a since b)"):
            self.check(text, *lines)
        self.check("(a)and(b)", *lines[:2], ("and", 0, 1))
        self.check("(a)or not(a)", ("letter", "a"), ("not", 0), ("or", 0, 1))

    def test_lines_that_were_written_before(self):
        self.check("a or a", ("letter", "a"), ("or", 0, 0))
        self.check("b and (a or b) and (a or b)",
                   ("letter", "b"), ("letter", "a"), ("or", 1, 0), ("and", 0, 2), ("and", 3, 2))
        self.check("(not a) since not a", ("letter", "a"), ("not", 0), ("since", 1, 1))
        self.check("a or b and b or a", ("letter", "a"), ("letter", "b"), ("and", 1, 1), ("or", 0, 2), ("or", 3, 0))
        self.check("(a and b) or (b and a)", ("letter", "a"), ("letter", "b"), ("and", 0, 1), ("and", 1, 0), ("or", 2, 3))

    def test_random_formulas(self):
        random = Random(131)
        for _ in range(800):
            tree = random_tree(random, random.randrange(6))
            tokens = tokens_of(tree, random)
            if levels_and_fault(tokens) != (12, None) and len(tokens) <= 120:
                lines = []
                lines_in_order(tree, lines)
                found = read_formula(spaced(tokens, random))
                self.assertEqual(found, tuple(lines))
                self.assertEqual(check_lines(list(found)), found)

    def test_four_hundred_characters(self):
        text = "a" + " " * 397 + " " + " "
        self.assertEqual(len(text), 400)
        self.check(text, ("letter", "a"))
        self.check(" " * 399 + "d", ("letter", "d"))

    def test_many_tokens(self):
        text = " or".join(["a"] + [" a"] * 59) + " "
        lines = read_formula(text)
        self.assertEqual((len(split_up(text)), len(lines)), (119, 60))
        self.assertEqual(lines[:3] + lines[-1:], (("letter", "a"), ("or", 0, 0), ("or", 1, 0), ("or", 58, 0)))
        text = "not " + text
        self.assertEqual(len(split_up(text)), 120)
        self.assertEqual(read_formula(text)[:3], (("letter", "a"), ("not", 0), ("or", 1, 0)))

    def test_twelve_levels(self):
        lines = [("letter", "a")] + [("not", at) for at in range(12)]
        self.check("not " * 12 + "a", *lines)
        self.check("(" * 12 + "a" + ")" * 12, ("letter", "a"))
        self.check("(not " * 6 + "a" + ")" * 6, *lines[:7])
        # A level of an operand ends with it, so that the next one may open as many.
        text = " and ".join(["not " * 12 + "a"] * 3)
        self.check(text, *lines, ("and", 12, 12), ("and", 13, 12))
        text = "(" + "not " * 11 + "a since " + "before " * 11 + "a)"
        self.assertEqual(len(read_formula(text)), 24)

    def test_example(self):
        self.assertEqual(read_formula("not b since a or a"),
                         (("letter", "b"), ("not", 0), ("letter", "a"), ("since", 1, 2), ("or", 3, 2)))


class FaultTest(unittest.TestCase):
    def check(self, text, column):
        with self.assertRaises(SyntaxFault) as caught:
            read_formula(text)
        self.assertEqual(caught.exception.column, column, text)

    def test_characters_of_no_formula(self):
        for sign in "A Z0 1 9.,;=-_!|&~'\"\n\t\r{}[]@`\x00\u00e9\u00df\u0430\u2003":
            if sign != " ":
                self.check(sign, 1)
                self.check(f"a{sign}", 2)
                self.check(f"a or {sign}b", 6)
                self.check(f"not (a and b) {sign}", 15)

    def test_characters_ahead_of_every_other_fault(self):
        self.check("or a ) xyz A", 12)
        self.check(") ) )!", 6)
        self.check("a b c?d E", 6)
        self.check("not " * 13 + "aB", 54)
        self.check("( a or -", 8)
        self.check("    0    1", 5)

    def test_ends_too_early(self):
        for text in ("", " ", "    ", "not", "before ", "a or", "a or  ", "(", "(a", "(a   ", "not (a since b", "a and not ",
                     "((a)", "a since"):
            self.check(text, len(text) + 1)

    def test_words_of_no_formula(self):
        for word in ("e", "z", "ab", "aa", "nota", "notnot", "ora", "starts", "trues", "tru", "false", "beforea", "x" * 300):
            self.check(word, 1)
            self.check(f"  {word} ", 3)
            self.check(f"a or {word}", 6)
            self.check(f"({word}", 2)
            self.check(f"a {word} b", 3)
            self.check(f"not {word} a", 5)

    def test_tokens_with_which_no_formula_goes_on(self):
        self.check("a and or b", 7)
        self.check("or a", 1)
        self.check(")", 1)
        self.check("a)", 2)
        self.check("(a))", 4)
        self.check("()", 2)
        self.check("a b", 3)
        self.check("a (b)", 3)
        self.check("a not b", 3)
        self.check("(a b)", 4)
        self.check("(a)(b)", 4)
        self.check("not )", 5)
        self.check("not or a", 5)
        self.check("start start", 7)
        self.check("a since since b", 9)
        self.check("(a or ) b", 7)
        self.check("(a or b c) or A".replace("A", "a"), 9)

    def test_thirteenth_level(self):
        for token in ("not ", "before ", "("):
            for last in ("not ", "before ", "("):
                self.check(token * 12 + last + "a", len(token) * 12 + 1)
                self.check(token * 12 + last, len(token) * 12 + 1)
            self.check(token * 11 + "a and " + ")" + "b", len(token) * 11 + 7)
        self.check("(" * 6 + "not " * 6 + "(a)", 31)
        self.check("not " * 12 + "a or " + "not " * 13 + "a", 102)
        self.check("(" * 12 + "a or not b" + ")" * 12, 18)
        self.check("(" * 12 + "a" + ")" * 13, 26)

    def test_all_short_rows_of_tokens(self):
        words = ("a", "true", "not", "(", ")", "or", "since", "x")
        for count in range(6):
            for tokens in product(words, repeat=count):
                text = " ".join(tokens)
                _, fault = levels_and_fault(tokens)
                if fault is None:
                    read_formula(text)
                else:
                    columns = [len(" ".join(tokens[:at])) + 1 + (at > 0) for at in range(count)] + [len(text) + 1]
                    self.check(text, columns[fault])

    def test_random_texts(self):
        random = Random(132)
        for _ in range(600):
            tokens = tokens_of(random_tree(random, 5), random)
            tokens[random.randrange(len(tokens))] = random.choice(("a", "not", "(", ")", "or", "start", "e"))
            tokens = random.choice((tokens, tokens[:random.randrange(len(tokens))], ["not"] * 9 + tokens))
            _, fault = levels_and_fault(tokens)
            text = spaced(tokens, random)
            if fault is None:
                read_formula(text)
            else:
                columns = [at + 1 for at in range(len(text)) if text[at] in "()" or text[at].isalpha()
                           and not text[at - 1:at].isalpha()]
                self.check(text, [*columns, len(text) + 1][fault])

    def test_example(self):
        self.check("a and or b", 7)


class WriteTest(unittest.TestCase):
    def check(self, lines):
        text = write_formula(lines)
        read = read_formula(text)
        for word in every_word("abcd", 3):
            self.assertEqual(slow_truths(read, word)[-1], slow_truths(lines, word)[-1])
        for word in ("abcabcdd", "aaaabaaaac", "dcbabcdabcad"):
            self.assertEqual(truths(read, word), truths(lines, word))
        self.assertLessEqual(len(text), 400)
        self.assertLessEqual(len(split_up(text)), 120)
        self.assertLessEqual(levels_and_fault(split_up(text))[0], 12)
        return text

    def within(self, lines):
        """Whether the formula that the interface tells is one that it lets be written."""
        text = written_out(lines)
        tokens = text.split()
        return len(text) <= 400 and len(tokens) <= 120 and levels_and_fault(tokens)[1] is None

    def test_each_kind(self):
        for letter in "abcd":
            self.assertEqual(read_formula(self.check((("letter", letter),))), (("letter", letter),))
        for kind in ("start", "true"):
            self.assertEqual(read_formula(self.check(((kind,),))), ((kind,),))
        for kind in ("not", "before"):
            self.check((("letter", "a"), (kind, 0)))
            self.check((("letter", "a"), (kind, 0), (kind, 1)))
        for kind in BETWEEN:
            self.check((("letter", "a"), ("letter", "b"), (kind, 0, 1)))
            self.check((("letter", "a"), ("letter", "b"), (kind, 1, 0)))

    def test_each_kind_within_each(self):
        for outer in ("not", "before", *BETWEEN):
            for inner in ("not", "before", *BETWEEN):
                for left in (True, False):
                    lines = [("letter", "a"), ("letter", "b"), (inner, 0) if inner not in BETWEEN else (inner, 0, 1)]
                    if outer not in BETWEEN:
                        lines.append((outer, 2))
                    else:
                        lines.append((outer, 2, 1) if left else (outer, 0, 2))
                    self.check(tuple(lines))

    def test_random_sentences(self):
        count = 0
        for lines in random_sentences(133, 500, 14):
            if self.within(lines):
                count += 1
                self.check(lines)
        self.assertGreater(count, 300)

    def test_what_was_read_is_read_again(self):
        random = Random(134)
        for _ in range(300):
            lines = []
            lines_in_order(random_tree(random, 4), lines)
            if self.within(lines):
                self.assertEqual(read_formula(self.check(tuple(lines))), tuple(lines))

    def test_lines_that_are_spoken_of_more_than_once(self):
        lines = (("letter", "a"), ("letter", "b"), ("since", 0, 1), ("or", 2, 2), ("and", 3, 2), ("not", 4), ("and", 5, 0))
        self.assertEqual(read_formula(self.check(lines)), lines)

    def test_lines_of_which_no_line_speaks(self):
        lines = [("letter", "a"), ("letter", "b"), ("and", 0, 1)]
        # Written out, these would have more characters than any text.
        lines.extend([("or", at, at) for at in range(2, 300)])
        lines.extend([("letter", "c"), ("since", 0, len(lines))])
        text = self.check(tuple(lines))
        self.assertEqual(read_formula(text), (("letter", "a"), ("letter", "c"), ("since", 0, 1)))
        self.assertEqual(read_formula(self.check((("letter", "a"), ("not", 0), ("true",)))), (("true",),))

    def test_lines_that_stand_twice(self):
        lines = (("letter", "a"), ("letter", "a"), ("not", 0), ("not", 1), ("and", 2, 3))
        self.assertEqual(read_formula(self.check(lines)), (("letter", "a"), ("not", 0), ("and", 1, 1)))

    def test_at_the_bounds(self):
        # Twelve levels: each not but the last one opens two with its parentheses.
        lines = [("letter", "a"), ("not", 0)]
        for at in range(5):
            lines.append(("not", at + 1))
        lines.append(("or", len(lines) - 1, 0))
        self.assertTrue(self.within(lines))
        self.assertEqual(levels_and_fault(written_out(lines).split()), (12, None))
        self.check(tuple(lines))
        # Sixty times start, so that there are 119 tokens at first.
        lines = [("start",)]
        while self.within([*lines, ("since", len(lines) - 1, 0)]):
            lines.append(("since", len(lines) - 1, 0))
        self.assertEqual(len(lines), 14)
        self.check(tuple(lines))
        # As many tokens, and nearly as many characters, as may be: 29 operands, two by two.
        lines = [("start",), ("before", 0)]
        numbers = [0] * 26 + [1] * 3
        while len(numbers) > 1:
            first, second, *numbers = numbers
            numbers.append(len(lines))
            lines.append(("or", first, second))
        text = written_out(lines)
        self.assertTrue(self.within(lines))
        self.assertEqual((len(text.split()), len(text)), (120, 398))
        self.check(tuple(lines))

    def test_the_sentence_stays(self):
        lines = (("letter", "a"), ("not", 0))
        write_formula(lines)
        self.assertEqual(lines, (("letter", "a"), ("not", 0)))


if __name__ == "__main__":
    unittest.main()
