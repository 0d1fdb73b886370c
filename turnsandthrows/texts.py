"""Machines and benches as texts."""

from turnsandthrows.bench import Bench, is_definition
from turnsandthrows.errors import SyntaxFault
from turnsandthrows.formulas import read_formula
from turnsandthrows.machines import make_machine

# The words of the definitions that speak of names, and of how many.
SPOKEN = {"not": 1, "both": 2, "either": 2, "one": 2}
FORMULA = "formula"


def write_machine(machine):
    """Return the text of the machine."""
    steps, start, good = machine
    rows = "/".join([numbers_text(row) for row in steps])
    return f"{rows};{start};{numbers_text(good)}"


def numbers_text(numbers):
    """Return the text of the numbers, with one space between them."""
    return " ".join([str(number) for number in numbers])


def read_machine(text):
    """Return the machine whose text it is.

    Raises SyntaxFault if it is not written as one, otherwise InvalidMachine if it is none.
    """
    return read_machine_at(text, 0)


def read_machine_at(text, at):
    """Return the machine whose text stands there, up to the end; columns count from the beginning."""
    row, at = read_numbers(text, at)
    steps = [row]
    while sign_at(text, at) == "/":
        row, at = read_numbers(text, at + 1)
        steps.append(row)
    start, at = read_number(text, behind(text, at, ";"))
    at = behind(text, at, ";")
    good = []
    if at < len(text):
        good, at = read_numbers(text, at)
    behind(text, at, "")
    return make_machine(steps, start, good)


def read_numbers(text, at):
    """Return the list of the numbers that stand there, and where they end."""
    number, at = read_number(text, at)
    numbers = [number]
    while sign_at(text, at) == " ":
        number, at = read_number(text, at + 1)
        numbers.append(number)
    return numbers, at


def read_number(text, at):
    """Return the number of one or two digits that stands there, and where it ends."""
    if not is_digit(sign_at(text, at)):
        raise SyntaxFault(at + 1)
    end = at + 1
    if text[at] != "0" and is_digit(sign_at(text, end)):
        end += 1
    return int(text[at:end]), end


def behind(text, at, sign):
    """Return the place behind the character, which must stand there; an empty one is the end."""
    if sign_at(text, at) != sign:
        raise SyntaxFault(at + 1)
    return at + 1


def sign_at(text, at):
    """Return the character of the text at the place, or an empty text at its end."""
    return text[at:at + 1]


def is_digit(sign):
    """Return True if the character is a digit, False if it is another one or empty."""
    return "0" <= sign <= "9"


def write_bench(bench):
    """Return the list of the entry texts of all names, in the order of `order`."""
    return [f"{name}={entry_text(bench.entry(name))}" for name in bench.order()]


def entry_text(entry):
    """Return the text of a machine or a definition."""
    if not is_definition(entry):
        return write_machine(entry)
    if entry[0] == FORMULA:
        return f"{FORMULA} {entry[2]} {entry[1]}"
    return " ".join(entry)


def read_bench(texts):
    """Return the bench whose entry texts they are; raise the error of the first one that has one."""
    bench = Bench()
    for text in texts:
        name = text.partition("=")[0]
        at = len(name) + 1
        if is_digit(sign_at(text, at)):
            bench.add(name, read_machine_at(text, at))
        else:
            bench.define(name, read_definition(text, at))
    bench.forget()
    return bench


def read_definition(text, at):
    """Return the definition whose text stands there, up to the end, in an entry text."""
    rest = text[at:]
    head = len(FORMULA) + 3
    if is_formula_head(rest[:head]):
        # Spaces may stand in front of a formula; with these, its columns are those of the text.
        read_formula(" " * (at + head) + rest[head:])
        return (FORMULA, rest[head:], int(rest[head - 2]))
    parts = rest.split(" ")
    if parts[0] not in SPOKEN or len(parts) != SPOKEN[parts[0]] + 1 or "" in parts:
        raise SyntaxFault(min(at, len(text)) + 1)
    return tuple(parts)


def is_formula_head(text):
    """Return True if the text is the word, one digit and the spaces that stand before a formula."""
    return text[:-2] == f"{FORMULA} " and is_digit(text[-2:-1]) and text[-1:] == " "
