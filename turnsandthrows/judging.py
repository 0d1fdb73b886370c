"""Judging whether a cascade is right for a machine, and what turns it has."""

from turnsandthrows.machines import lead, letters_of
from turnsandthrows.permutations import generated


def first_fault(machine, cascade):
    """Return the first fault of the cascade for the machine, or None if it is right."""
    seen = set(list(cascade.shown.values()))
    for state in range(len(machine[0])):
        if state not in seen:
            return ("hidden", state)
    for row in sorted(cascade.shown):
        fault = row_fault(machine, cascade, row)
        if fault is not None:
            return fault
    return None


def row_fault(machine, cascade, row):
    """Return the first fault of the shown row, or None."""
    if not 0 <= cascade.shown[row] < len(machine[0]):
        return ("state", row)
    for level, place in enumerate(row):
        if not 0 <= place < cascade.widths[level]:
            return ("place", row, level)
    for letter in letters_of(machine):
        fault = act_fault(cascade, row, letter) or step_fault(machine, cascade, row, letter)
        if fault is not None:
            return fault
    return None


def act_fault(cascade, row, letter):
    """Return the first fault of the acts for the prefixes of the row and the letter, or None."""
    for level, table in enumerate(cascade.acts):
        act = table.get((row[:level], letter))
        if act is None:
            return ("missing", row, letter, level)
        if not is_permutation(act) and not is_reset(act):
            return ("neither", row, letter, level)
    return None


def step_fault(machine, cascade, row, letter):
    """Return the fault of the step of the row, whose acts are all there, or None."""
    there = cascade.step(row, letter)
    if there not in cascade.shown:
        return ("lost", row, letter)
    if cascade.shown[there] != lead(machine, cascade.shown[row], letter):
        return ("wrong", row, letter)
    return None


def is_permutation(act):
    """Return True if the act has each place once, otherwise False."""
    return len(set(act)) == len(act)


def is_reset(act):
    """Return True if all entries of the act are the same, otherwise False."""
    return len(set(act)) == 1


def used_acts(machine, cascade, level):
    """Return the list of the acts of the level that its shown rows need, each once, ascending.

    The cascade is right for the machine. Acts for other prefixes or letters do not count.
    """
    table = cascade.acts[level]
    letters = letters_of(machine)
    prefixes = sorted({row[:level] for row in cascade.shown})
    return sorted({table[(prefix, letter)] for prefix in prefixes for letter in letters})


def turns(machine, cascade, level):
    """Return the list of the turns of the level, each once, ascending."""
    return [act for act in used_acts(machine, cascade, level) if is_permutation(act)]


def group_sizes(machine, cascade):
    """Return the list of the numbers of members of the groups of the levels, in order."""
    sizes = []
    for level, width in enumerate(cascade.widths):
        sizes.append(len(generated(width, turns(machine, cascade, level))))
    return sizes
