"""Lots of states, and where words lead them."""

from turnsandthrows.machines import lead, letters_of
from turnsandthrows.walking import reached


def lead_lot(machine, lot, word):
    """Return the lot to which the word leads the lot."""
    for letter in word:
        lot = tuple(sorted({lead(machine, state, letter) for state in lot}))
    return lot


def lots(machine):
    """Return the list of the lots of the machine, those with more states first."""
    states = tuple(range(len(machine[0])))
    found = list(lots_from(machine, states))
    single = [(state,) for state in states if (state,) not in found]
    return sorted(found + single, key=lambda lot: (-len(lot), lot))


def lots_from(machine, lot):
    """Return a dict from the lots to which words lead the lot to the least words that do so."""
    return reached(lot, letters_of(machine), lambda here, letter: lead_lot(machine, here, letter))


def leading_word(machine, first, second):
    """Return the least word that leads the first lot to the second one, or None."""
    return lots_from(machine, first).get(second)


def permutations_at(machine, lot):
    """Return the list of the permutations that words make of the lot's states, ascending."""
    return sorted([row for row in rows_from(machine, lot) if tuple(sorted(row)) == lot])


def rows_from(machine, lot):
    """Return a dict from the rows to which words lead the states of the lot, to least words.

    A row tells where each state of the lot is led. Only rows without two equal states count:
    states that were led to one state are never parted again.
    """
    return reached(lot, letters_of(machine), lambda row, letter: lead_row(machine, row, letter))


def lead_row(machine, row, letter):
    """Return where the letter leads the states of the row, or None if two meet."""
    there = tuple([lead(machine, state, letter) for state in row])
    if len(set(there)) < len(row):
        return None
    return there
