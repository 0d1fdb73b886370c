"""Formulas: texts that write sentences."""

from turnsandthrows.errors import SyntaxFault
from turnsandthrows.lines import is_letter, number_of

MOST_LEVELS = 12

# The words that stand between two operands, those that bind least first.
BETWEEN = ("or", "and", "since")


def read_formula(text):
    """Return the sentence that the formula writes; raise SyntaxFault if the text is none."""
    reader = Reader(tokens_of(text))
    reader.operation(0)
    reader.take("")
    return tuple(reader.numbers)


def tokens_of(text):
    """Return the list of the tokens with their columns; an empty one stands at the end.

    Raises SyntaxFault if a character is none of a formula.
    """
    for at, sign in enumerate(text):
        if not is_small(sign) and sign not in "() ":
            raise SyntaxFault(at + 1)
    tokens = []
    goes_on = False
    for at, sign in enumerate(text):
        if goes_on and is_small(sign):
            tokens[-1] = (tokens[-1][0] + sign, tokens[-1][1])
        elif sign != " ":
            tokens.append((sign, at + 1))
        goes_on = is_small(sign)
    tokens.append(("", len(text) + 1))
    return tokens


def is_small(sign):
    """Return True if the character is a lower-case letter from a to z, otherwise False."""
    return "a" <= sign <= "z"


class Reader:
    """Reads the tokens of a formula one after another, and writes its lines."""

    def __init__(self, tokens):
        self.tokens = tokens
        self.at = 0
        self.levels = 0
        self.numbers = {}

    def token(self):
        """Return the token that comes next."""
        return self.tokens[self.at][0]

    def place(self):
        """Return the column of the token that comes next."""
        return self.tokens[self.at][1]

    def take(self, token):
        """Go behind the token, which must come next; raise SyntaxFault if it does not."""
        if self.token() != token:
            raise SyntaxFault(self.place())
        self.at += 1

    def operation(self, rank):
        """Read operands with the word of the rank between them; return the number of their line."""
        if rank == len(BETWEEN):
            return self.plain()
        left = self.operation(rank + 1)
        while self.token() == BETWEEN[rank]:
            self.take(BETWEEN[rank])
            right = self.operation(rank + 1)
            left = number_of(self.numbers, (BETWEEN[rank], left, right))
        return left

    def plain(self):
        """Read an operand with no word between its parts; return the number of its line."""
        token = self.token()
        if token in ("not", "before", "("):
            return self.opened(token)
        if is_letter(token):
            line = ("letter", token)
        elif token in ("start", "true"):
            line = (token,)
        else:
            raise SyntaxFault(self.place())
        self.take(token)
        return number_of(self.numbers, line)

    def opened(self, token):
        """Read an operand that begins with a token that opens a level; return the number of its line."""
        if self.levels == MOST_LEVELS:
            raise SyntaxFault(self.place())
        self.levels += 1
        self.take(token)
        if token == "(":
            number = self.operation(0)
            self.take(")")
        else:
            number = number_of(self.numbers, (token, self.plain()))
        self.levels -= 1
        return number


def write_formula(lines):
    """Return a formula that writes a sentence which holds for the same words."""
    return written(lines, len(lines) - 1)


def written(lines, at):
    """Return the formula of the line of that number."""
    line = lines[at]
    if line[0] == "letter":
        return line[1]
    if len(line) == 1:
        return line[0]
    if len(line) == 2:
        return f"{line[0]} {operand(lines, line[1])}"
    return f"{operand(lines, line[1])} {line[0]} {operand(lines, line[2])}"


def operand(lines, at):
    """Return the formula of the line of that number, with parentheses if it is not a single token."""
    text = written(lines, at)
    if " " in text:
        return f"( {text} )"
    return text
