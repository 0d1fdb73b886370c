"""What is asked about the machines of a bench; the bench makes and keeps those that are needed."""

from turnsandthrows.decomposing import decompose
from turnsandthrows.errors import TooManyStates
from turnsandthrows.least import difference, least
from turnsandthrows.machines import accepts, letters_of
from turnsandthrows.rings import find_ring, primes
from turnsandthrows.telling import lines_of

# The bounds of the functions that take machines apart.
MOST_TAKEN_APART = 6
MOST_TOLD = 5
MOST_LETTERS = 3


def machine_at(bench, name):
    """Return the machine of the name."""
    return bench.needed(name)


def accepts_at(bench, name, word):
    """Return True if the machine of the name accepts the word over abcd, otherwise False."""
    machine = bench.needed(name)
    letters = letters_of(machine)
    return all([letter in letters for letter in word]) and accepts(machine, word)


def difference_at(bench, first, second):
    """Return the least word that exactly one of the machines of the two names accepts, or None."""
    # A second name that is not there must be found before the machine of the first one is made.
    bench.check_known(second)
    return difference(bench.needed(first), bench.needed(second))


def ring_at(bench, name):
    """Return a ring of the least machine of the name, or None if it does not go round."""
    return find_ring(least_at(bench, name, MOST_TAKEN_APART))


def primes_at(bench, name):
    """Return the list of the primes of the least machine of the name."""
    return primes(least_at(bench, name, MOST_TAKEN_APART))


def cascade_at(bench, name):
    """Return a right cascade for the least machine of the name."""
    return decompose(least_at(bench, name, MOST_TAKEN_APART))


def sentence_at(bench, name):
    """Return a sentence of the machine of the name; raise GoesRound if there is none."""
    return lines_of(least_at(bench, name, MOST_TOLD))


def least_at(bench, name, most):
    """Return the least machine of the machine of the name.

    Raises TooManyStates if it has more than `most` states, or too many letters.
    """
    told = least(bench.needed(name))
    if len(told[0]) > most or len(letters_of(told)) > MOST_LETTERS:
        raise TooManyStates(f"more than {most} states or {MOST_LETTERS} letters")
    return told
