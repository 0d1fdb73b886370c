"""Plain and slow ways to the same answers, with which the tests compare the program."""

from itertools import product
from random import Random


def in_order(words):
    """The words in the order of point 3."""
    return sorted(words, key=lambda word: (len(word), word))


def every_word(letters, length):
    """All words over the letters with at most so many letters, in order."""
    return ["".join(word) for size in range(length + 1) for word in product(letters, repeat=size)]


def run(machine, state, word):
    """Where the word leads the state."""
    for letter in word:
        state = machine[0][state]["abcd".index(letter)]
    return state


def accepted(machine, words):
    """Whether the machine accepts each of the words."""
    return [run(machine, machine[1], word) in machine[2] for word in words]


def random_machine(random, states, letters):
    """A machine with so many states and letters."""
    steps = tuple(tuple(random.randrange(states) for _ in range(letters)) for _ in range(states))
    good = tuple(state for state in range(states) if random.randrange(2))
    return (steps, random.randrange(states), good)


def random_machines(seed, count, most_states, most_letters):
    """Machines of 1 to so many states and letters; the same ones for the same seed."""
    random = Random(seed)
    for _ in range(count):
        yield random_machine(random, random.randint(1, most_states), random.randint(1, most_letters))


def every_machine(states, letters):
    """All machines with so many states and letters."""
    rows = list(product(range(states), repeat=letters))
    goods = [tuple(s for s in range(states) if marks[s]) for marks in product((0, 1), repeat=states)]
    for steps in product(rows, repeat=states):
        for start in range(states):
            for good in goods:
                yield (steps, start, good)


def wheel_machine(count, letters=1):
    """A machine that accepts the words whose number of letters is divided by the count."""
    return (tuple(((state + 1) % count,) * letters for state in range(count)), 0, (0,))


def every_lot(states):
    """All lots of so many states."""
    marks = product((0, 1), repeat=states)
    return [tuple(s for s in range(states) if row[s]) for row in marks if any(row)]


def all_that_words_do(machine):
    """The rows of states to which words lead all states, each with the least such word."""
    count = len(machine[0])
    found = {tuple(range(count)): ""}
    last = list(found)
    while last:
        fresh = []
        for row in last:
            for at in range(len(machine[0][0])):
                there = tuple(machine[0][state][at] for state in row)
                if there not in found:
                    found[there] = found[row] + "abcd"[at]
                    fresh.append(there)
        last = fresh
    return found


def cycle_lengths(row):
    """The lengths of the cycles of states that the row leads round, 1 too."""
    lengths = set()
    for state in range(len(row)):
        there, steps = row[state], 1
        while there != state and steps <= len(row):
            there, steps = row[there], steps + 1
        if there == state:
            lengths.add(steps)
    return lengths


def first_then(p, q):
    """First p and then q."""
    return tuple(q[p[i]] for i in range(len(p)))


def way_back(p):
    """The permutation that leads back."""
    return tuple(p.index(i) for i in range(len(p)))


def closure(places, makers):
    """The set of all that the makers make, one after another."""
    found = {tuple(range(places))}
    last = found
    while last:
        last = {first_then(p, q) for p in last for q in makers} - found
        found = found | last
    return found


def normal_closure(group, lot):
    """The set of the least normal part of the group that has all of the lot."""
    turned = {first_then(first_then(way_back(g), n), g) for n in lot for g in group}
    return closure(len(group[0]), turned)


def wheel(*sizes):
    """A permutation with a cycle of each of these sizes, over places that follow one another."""
    entries = []
    for size in sizes:
        first = len(entries)
        entries.extend(first + (i + 1) % size for i in range(size))
    return tuple(entries)


def swap(places, i, j):
    """The permutation that swaps two places."""
    entries = list(range(places))
    entries[i], entries[j] = j, i
    return tuple(entries)
