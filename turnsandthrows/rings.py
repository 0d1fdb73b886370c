"""Rings: words that lead some states of a machine round."""

from itertools import combinations

from turnsandthrows.lots import rows_from
from turnsandthrows.machines import lead, letters_of
from turnsandthrows.permutations import prime_numbers


def is_ring(machine, word, states):
    """Return True if the word and the states are a ring of the machine, otherwise False."""
    letters = letters_of(machine)
    count = len(machine[0])
    if len(word) < 1 or any([letter not in letters for letter in word]):
        return False
    if len(states) < 2 or len(set(states)) < len(states):
        return False
    if any([not 0 <= state < count for state in states]):
        return False
    return [lead(machine, state, word) for state in states] == [*states[1:], states[0]]


def find_ring(machine):
    """Return a ring of the machine, or None if it does not go round."""
    for count in range(2, len(machine[0]) + 1):
        ring = ring_of(machine, count)
        if ring is not None:
            return ring
    return None


def ring_of(machine, count):
    """Return a ring of the machine with so many states, or None if there is none."""
    for lot in combinations(range(len(machine[0])), count):
        ring = ring_at(machine, lot)
        if ring is not None:
            return ring
    return None


def ring_at(machine, lot):
    """Return a ring with all states of the lot, which has at least two, or None."""
    for row, word in rows_from(machine, lot).items():
        if tuple(sorted(row)) == lot:
            states = way_round(lot, row)
            if len(states) == len(lot):
                return (word, states)
    return None


def way_round(lot, row):
    """Return the states through which the first one comes round if the lot is led to the row."""
    following = dict(zip(lot, row))
    states = [lot[0]]
    while following[states[-1]] != lot[0]:
        states.append(following[states[-1]])
    return tuple(states)


def primes(machine):
    """Return the list of the primes of the machine, ascending."""
    numbers = range(2, len(machine[0]) + 1)
    return [p for p in numbers if prime_numbers(p) == [p] and ring_of(machine, p) is not None]
