"""Machines that tell sentences, and sentences of machines that do not go round."""

from turnsandthrows.decomposing import decompose
from turnsandthrows.errors import GoesRound
from turnsandthrows.judging import is_reset
from turnsandthrows.least import least, least_from
from turnsandthrows.lines import columns, number_of
from turnsandthrows.machines import LETTERS, MOST_STATES, letters_of
from turnsandthrows.rings import find_ring
from turnsandthrows.walking import reached


def machine_of(lines, count):
    """Return the least machine with so many letters that tells the sentence.

    Raises TooManyStates if it has more than 40 states.
    """
    letters = LETTERS[:count]
    kept = kept_lines(lines)
    origin = first_row(lines, kept)
    steps = steps_from(lines, kept, origin, letters)
    return least_from(
        origin,
        letters,
        lambda row, letter: steps[row][letters.index(letter)],
        lambda row: row[-1] == "1",
        MOST_STATES,
    )


def kept_lines(lines):
    """Return the list of the lines whose truths decide what is true at later moments.

    The last line of the sentence stands behind them: it decides whether a moment is good.
    """
    kept = [line[1] for line in lines if line[0] == "before"]
    kept.extend([at for at, line in enumerate(lines) if line[0] == "since"])
    return sorted(set(kept)) + [len(lines) - 1]


def first_row(lines, kept):
    """Return the text of the truths of the kept lines at moment 0, 1 for true and 0 for false."""
    plain = {("start",): 1, ("true",): 1}
    found = columns(
        lines,
        plain,
        1,
        lambda at, column: 0,
        lambda at, first, second: second,
    )
    return "".join([str(found[at]) for at in kept])


def steps_from(lines, kept, origin, letters):
    """Return a dict from the rows of truths to which words lead the origin to their steps."""
    steps = {}
    fresh = [origin]
    while len(fresh) > 0:
        there = next_rows(lines, kept, fresh, letters)
        for at, row in enumerate(fresh):
            steps[row] = there[at::len(fresh)]
        fresh = sorted({row for row in there if row not in steps})
    return steps


def next_rows(lines, kept, rows, letters):
    """Return the list of the rows to which the first letter leads the rows, then the second one, ..

    A sentence may have many lines, so each of them is worked out once for all rows and letters.
    """
    count = len(rows) * len(letters)
    full = (1 << count) - 1
    plain = {("true",): full}
    for letter in letters:
        marks = [("1" if letter == other else "0") * len(rows) for other in letters]
        plain[("letter", letter)] = int("".join(marks), 2)
    text = "".join(rows * len(letters))
    was = {at: int(text[place::len(kept)], 2) for place, at in enumerate(kept)}
    found = columns(
        lines,
        plain,
        full,
        lambda at, column: was[at],
        lambda at, first, second: second | (first & was[at]),
    )
    # The bit above all others keeps the zeros in front, so that each text has the same length.
    text = "".join([f"{found[at] + full + 1:b}" for at in kept])
    return [text[place::count + 1] for place in range(1, count + 1)]


def lines_of(machine):
    """Return a sentence of the machine; raise GoesRound if its least machine goes round."""
    told = least(machine)
    ring = find_ring(told)
    if ring is not None:
        raise GoesRound(ring)
    cascade = decompose(told)
    origin = cascade.rows_of(told[1])[0]
    rows = list(reached(origin, letters_of(told), lambda row, letter: cascade.step(row, letter)))
    numbers = {}
    here = {(): number_of(numbers, ("true",))}
    for level in range(len(cascade.widths)):
        write_level(numbers, here, cascade, level, rows)
    lines = list(numbers) + [("not", here[()])]
    for row in rows:
        if cascade.shown[row] in told[2]:
            lines.append(("or", len(lines) - 1, here[row]))
    return tuple(lines)


def write_level(numbers, here, cascade, level, rows):
    """Write the lines that tell the places of a level of the cascade, whose machine has no ring.

    `numbers` is a dict from the lines that are written to their numbers. `rows` are the rows to
    which words lead the first of them. `here` is a dict from the prefixes of these rows to the
    lines that are true where the row begins so; it gets the prefixes with a place of the level.
    """
    places = {}
    for row in rows:
        found = places.setdefault(row[:level], {})
        found[row[level]] = True
    # Where the places before leave no choice, they tell the place of the level, too.
    if any([len(choice) > 1 for choice in places.values()]):
        thrown = throwing_lines(numbers, here, cascade.acts[level], rows[0][level])
        still = number_of(numbers, ("not", any_of(numbers, list(thrown.values()))))
    for prefix, choice in places.items():
        for place in choice:
            here[prefix + (place,)] = here[prefix]
            if len(choice) > 1:
                since = number_of(numbers, ("since", still, thrown[place]))
                here[prefix + (place,)] = number_of(numbers, ("and", here[prefix], since))


def throwing_lines(numbers, here, table, origin):
    """Write the lines that are true where a level is thrown to a place; return their numbers.

    The level has these acts, and its place is the origin at moment 0. Its only turn leads each
    place to itself, so that the place is always the one to which it was thrown at last.
    """
    events = {origin: [number_of(numbers, ("start",))]}
    for (prefix, letter), act in table.items():
        if prefix in here and is_reset(act):
            was = number_of(numbers, ("before", here[prefix]))
            event = ("and", number_of(numbers, ("letter", letter)), was)
            events.setdefault(act[0], []).append(number_of(numbers, event))
    return {place: any_of(numbers, lines) for place, lines in events.items()}


def any_of(numbers, lines):
    """Write the lines that tell whether one of these is true; return the number of the last one."""
    found = lines[0]
    for line in lines[1:]:
        found = number_of(numbers, ("or", found, line))
    return found
