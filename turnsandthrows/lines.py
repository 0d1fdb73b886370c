"""Sentences about the past, and at which moments of a word they are true."""

from turnsandthrows.errors import InvalidLines
from turnsandthrows.machines import LETTERS

MOST_LINES = 40000

# The number of entries of each kind of line.
ENTRIES = {
    "letter": 2,
    "start": 1,
    "true": 1,
    "not": 2,
    "and": 3,
    "or": 3,
    "before": 2,
    "since": 3,
}


def check_lines(lines):
    """Return the sentence with these lines; raise InvalidLines if it would be none."""
    if not 1 <= len(lines) <= MOST_LINES:
        raise InvalidLines(f"{len(lines)} lines, not 1 to {MOST_LINES}")
    for at, line in enumerate(lines):
        if not is_line(line, at):
            raise InvalidLines(f"line {at} is none of a sentence")
    return tuple(lines)


def is_line(line, at):
    """Return True if the tuple is a line that may have the number, otherwise False."""
    if len(line) == 0 or len(line) != ENTRIES.get(line[0], 0):
        return False
    if line[0] == "letter":
        return is_letter(line[1])
    return all([isinstance(entry, int) and 0 <= entry < at for entry in line[1:]])


def is_letter(entry):
    """Return True if the text or integer is a letter, otherwise False."""
    return entry in tuple(LETTERS)


def number_of(numbers, line):
    """Return the number of the line, which is written behind those of the dict if it is new."""
    return numbers.setdefault(line, len(numbers))


def truths(lines, word):
    """Return the list with True or False for each moment: whether the last line is true there."""
    moments = len(word) + 1
    full = (1 << moments) - 1
    plain = {("start",): 1, ("true",): full}
    for letter in LETTERS:
        plain[("letter", letter)] = sum([2 << at for at, other in enumerate(word) if other == letter])
    column = columns(
        lines,
        plain,
        full,
        lambda at, column: (column << 1) & full,
        lambda at, first, second: since_column(first, second),
    )[-1]
    return [(column >> moment) & 1 == 1 for moment in range(moments)]


def holds(lines, word):
    """Return True if the sentence holds for the word, otherwise False."""
    return truths(lines, word)[-1]


def columns(lines, plain, full, before, since):
    """Return the list of the columns of the lines.

    A column is an integer with a bit for each of some moments, 1 where the line is true, so that
    each line is worked out for all of them at once. `plain` is a dict with the columns of lines
    that speak of no others, as far as they are ever true; `full` has a 1 for each moment.
    `before(number, column)` returns what is true where the line of that number, which has that
    column, was true at the moment before; `since(number, first, second)` returns the column of
    the line of that number, which is true since the second of two columns, with the first.
    """
    found = []
    for at, line in enumerate(lines):
        word = line[0]
        if word == "and":
            column = found[line[1]] & found[line[2]]
        elif word == "or":
            column = found[line[1]] | found[line[2]]
        elif word == "not":
            column = full ^ found[line[1]]
        elif word == "before":
            column = before(line[1], found[line[1]])
        elif word == "since":
            column = since(at, found[line[1]], found[line[2]])
        else:
            column = plain.get(line, 0)
        found.append(column)
    return found


def since_column(first, second):
    """Return the column that is true since the second one is, with the first one from then on.

    The bits of both are moments that follow one another, from the lowest one on.
    """
    begun = (second << 1) & first
    # A sum carries what has begun upwards, through all moments at which the first one stays true.
    carried = ((first + begun) ^ first) & first
    return second | begun | carried
