"""Plain and slow truths of sentences, and sentences and formulas to try."""

from random import Random

from tests.tools import run


def slow_rows(lines, word):
    """For each moment of the word the list with the truth of each line, by the words of point 23."""
    rows = []
    for k in range(len(word) + 1):
        row = []
        rows.append(row)
        for line in lines:
            row.append(slow_truth(line, word, rows, k))
    return rows


def slow_truth(line, word, rows, k):
    """Whether the line is true at moment k, of which the rows have the lines before it."""
    kind, *entries = line
    if kind == "letter":
        return k >= 1 and word[k - 1] == entries[0]
    if kind == "start":
        return k == 0
    if kind == "true":
        return True
    if kind == "not":
        return not rows[k][entries[0]]
    if kind == "and":
        return rows[k][entries[0]] and rows[k][entries[1]]
    if kind == "or":
        return rows[k][entries[0]] or rows[k][entries[1]]
    if kind == "before":
        return k >= 1 and rows[k - 1][entries[0]]
    i, j = entries
    return any(rows[h][j] and all(rows[g][i] for g in range(h + 1, k + 1)) for h in range(k + 1))


def slow_truths(lines, word):
    """Whether the last line is true, for each moment of the word."""
    return [row[-1] for row in slow_rows(lines, word)]


def random_line(random, at):
    """A line that may have the number."""
    kinds = ("letter", "letter", "start", "true", "not", "and", "or", "before", "before", "since", "since")
    kind = random.choice(kinds if at > 0 else kinds[:4])
    if kind == "letter":
        return (kind, random.choice("abcd"))
    if kind in ("start", "true"):
        return (kind,)
    if kind in ("not", "before"):
        return (kind, random.randrange(at))
    return (kind, random.randrange(max(0, at - 4), at), random.randrange(at))


def random_sentence(random, count):
    """A sentence with so many lines."""
    return tuple(random_line(random, at) for at in range(count))


def random_sentences(seed, count, most_lines):
    """Sentences of 1 to so many lines; the same ones for the same seed."""
    random = Random(seed)
    for _ in range(count):
        yield random_sentence(random, random.randint(1, most_lines))


def before_start(count):
    """The sentence that holds for the words with so many letters."""
    return (("start",), *(("before", at) for at in range(count)))


def reachable(machine):
    """The states to which words lead the start."""
    found = [machine[1]]
    for state in found:
        found.extend({run(machine, state, "abcd"[k]) for k in range(len(machine[0][0]))} - set(found))
    return found


def rows_of_truths(lines, letters, most):
    """How many rows of truths the lines before and since take; it stops above the number.

    A moment is known by the truths of all lines there: those of the next one follow from them.
    """
    marked = [at for at, line in enumerate(lines) if line[0] in ("before", "since")]
    first = tuple(slow_rows(lines, "")[0])
    moments = [first]
    seen = {first}
    for moment in moments:
        for letter in letters:
            there = next_moment(lines, moment, letter)
            if there not in seen and len(seen) <= most * len(letters):
                seen.add(there)
                moments.append(there)
    return len({tuple(moment[at] for at in marked) for moment in moments})


def next_moment(lines, moment, letter):
    """The truths of the lines at the moment behind one with these truths, and behind the letter."""
    row = []
    for at, (kind, *entries) in enumerate(lines):
        if kind == "letter":
            row.append(entries[0] == letter)
        elif kind in ("start", "true"):
            row.append(kind == "true")
        elif kind == "not":
            row.append(not row[entries[0]])
        elif kind == "and":
            row.append(row[entries[0]] and row[entries[1]])
        elif kind == "or":
            row.append(row[entries[0]] or row[entries[1]])
        elif kind == "before":
            row.append(moment[entries[0]])
        else:
            row.append(row[entries[1]] or (row[entries[0]] and moment[at]))
    return tuple(row)
