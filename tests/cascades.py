"""Plain and slow judging of cascades, and machines to take apart."""

from itertools import permutations
from random import Random

from turnsandthrows.cascade import Cascade

from tests.tools import closure, every_machine, random_machines, run


def is_turn(act):
    """Whether the act has each place once."""
    return sorted(act) == list(range(len(act)))


def stepped(cascade, row, letter):
    """The step of a row whose places and acts are all there."""
    return tuple(cascade.acts[level][row[:level], letter][place] for level, place in enumerate(row))


def all_faults(machine, cascade):
    """All faults of point 16, the first ones first; no step is taken where an act is missing."""
    states = range(len(machine[0]))
    found = [((0, state), ("hidden", state)) for state in states if state not in cascade.shown.values()]
    for row, state in cascade.shown.items():
        if state not in states:
            found.append(((1, row, 0), ("state", row)))
        wrong_places = [level for level, place in enumerate(row) if place not in range(cascade.widths[level])]
        found.extend(((1, row, 1, level), ("place", row, level)) for level in wrong_places)
        for at in range(len(machine[0][0])):
            letter = "abcd"[at]
            missing = False
            for level in range(len(cascade.widths)):
                if (row[:level], letter) not in cascade.acts[level]:
                    missing = True
                    found.append(((1, row, 2, at, 0, level), ("missing", row, letter, level)))
                else:
                    act = cascade.acts[level][row[:level], letter]
                    if not is_turn(act) and act.count(act[0]) < len(act):
                        found.append(((1, row, 2, at, 0, level), ("neither", row, letter, level)))
            if missing or wrong_places:
                continue
            there = stepped(cascade, row, letter)
            if there not in cascade.shown:
                found.append(((1, row, 2, at, 1), ("lost", row, letter)))
            elif state in states and cascade.shown[there] != machine[0][state][at]:
                found.append(((1, row, 2, at, 2), ("wrong", row, letter)))
    return [fault for _, fault in sorted(found)]


def used(machine, cascade, level):
    """The acts of the level for prefixes of shown rows and letters of the machine, ascending."""
    letters = "abcd"[:len(machine[0][0])]
    return sorted({cascade.acts[level][row[:level], letter] for row in cascade.shown for letter in letters})


def groups_of(machine, cascade):
    """The sets of the groups of the levels."""
    levels = range(len(cascade.widths))
    return [closure(cascade.widths[k], [act for act in used(machine, cascade, k) if is_turn(act)]) for k in levels]


def parts_of(cascade):
    """Copies of what the cascade was made of, to be changed."""
    return list(cascade.widths), [dict(table) for table in cascade.acts], dict(cascade.shown)


def stirred(machine, cascade):
    """The cascade with more acts, none of which matters for the machine."""
    widths, acts, shown = parts_of(cascade)
    for level, width in enumerate(widths):
        prefixes = {row[:level] for row in shown}
        round_act = (*range(1, width), 0)
        odd_act = (*range(1, width), width - 1)
        for letter in "abcd"[len(machine[0][0]):]:
            for prefix in prefixes:
                acts[level][prefix, letter] = odd_act if letter == "d" else round_act
        if level > 0:
            for letter in "abcd":
                acts[level][(-1,) * level, letter] = odd_act
                acts[level][(64,) * level, letter] = round_act
    return Cascade(widths, acts, shown)


def columns_machine(columns):
    """The machine whose letters lead the states so."""
    return (tuple(zip(*columns)), 0, ())


def column(random, kind, states):
    """What a letter of some kind does to the states."""
    entries = list(range(states))
    if kind == "turn":
        random.shuffle(entries)
    elif kind == "throw":
        entries = [random.randrange(states)] * states
    elif kind == "one":
        entries[random.randrange(states)] = random.randrange(states)
    elif kind == "climb":
        entries = sorted(random.randrange(states) for _ in range(states))
    else:
        entries = [random.randrange(states) for _ in range(states)]
    return entries


def mixed_machines(seed, count, most_states, kinds=("turn", "throw", "one", "climb", "any")):
    """Machines of 1 to so many states and 1 to 3 letters, of several kinds."""
    random = Random(seed)
    for _ in range(count):
        states = random.randint(1, most_states)
        letters = random.randint(1, 3)
        yield columns_machine([column(random, random.choice(kinds), states) for _ in range(letters)])


def machines():
    """Machines of 1 to 6 states and 1 to 3 letters, of many kinds."""
    yield from every_machine(1, 3)
    yield from list(every_machine(2, 2))[::7]
    yield from list(every_machine(3, 2))[::173]
    yield from random_machines(61, 80, 6, 3)
    yield from mixed_machines(62, 160, 6)
    yield from mixed_machines(63, 60, 6, ("turn", "throw"))
    yield from mixed_machines(64, 60, 6, ("throw", "climb"))
    yield from mixed_machines(65, 40, 6, ("turn",))
    # All that six states can be led to, and all permutations of them.
    yield columns_machine([(1, 2, 3, 4, 5, 0), (1, 0, 2, 3, 4, 5), (0, 0, 2, 3, 4, 5)])
    yield columns_machine([(1, 2, 3, 4, 5, 0), (1, 0, 2, 3, 4, 5)])
    yield columns_machine([(1, 2, 3, 4, 5, 5), (0, 0, 1, 2, 3, 4), (0, 0, 0, 3, 3, 3)])


def follows(machine, cascade, words):
    """Whether rows that show states are led to rows that show the states to which words lead these."""
    for row, state in cascade.shown.items():
        for word in words:
            if cascade.shown.get(cascade.run(row, word)) != run(machine, state, word):
                return False
    return True


def even_permutations(places):
    """The permutations that are made of an even number of swaps."""
    rows = []
    for row in permutations(range(places)):
        if sum(row[i] > row[j] for j in range(places) for i in range(j)) % 2 == 0:
            rows.append(row)
    return rows
