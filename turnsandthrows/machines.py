"""Machines, their letters and words, and where words lead."""

from turnsandthrows.errors import InvalidMachine

LETTERS = "abcd"
MOST_STATES = 40


def make_machine(steps, start, good):
    """Return the machine (steps, start, good); raise InvalidMachine if it would be none."""
    check_shape(steps)
    for row in steps:
        check_states(row, len(steps))
    check_states([start], len(steps))
    check_states(good, len(steps))
    return (tuple([tuple(row) for row in steps]), start, tuple(sorted(set(good))))


def check_shape(steps):
    """Raise InvalidMachine if the steps do not have the form of those of a machine."""
    if not 1 <= len(steps) <= MOST_STATES:
        raise InvalidMachine(f"{len(steps)} states, not 1 to {MOST_STATES}")
    width = len(steps[0])
    if not 1 <= width <= len(LETTERS):
        raise InvalidMachine(f"{width} letters, not 1 to {len(LETTERS)}")
    for state, row in enumerate(steps):
        if len(row) != width:
            raise InvalidMachine(f"state {state} has {len(row)} steps, state 0 has {width}")


def check_states(states, count):
    """Raise InvalidMachine if one of the integers is not a state of a machine with so many."""
    for state in states:
        if not 0 <= state < count:
            raise InvalidMachine(f"a step, the start or a good state is none of the {count} states")


def letters_of(machine):
    """Return the text of the letters of the machine."""
    return LETTERS[:len(machine[0][0])]


def lead(machine, state, word):
    """Return the state to which the word leads the state."""
    steps = machine[0]
    for letter in word:
        state = steps[state][LETTERS.index(letter)]
    return state


def accepts(machine, word):
    """Return True if the machine accepts the word, otherwise False."""
    return lead(machine, machine[1], word) in machine[2]


def words_upto(letters, length):
    """Return the list of all words over the letters with at most so many letters, in order."""
    words = [""]
    longest = [""]
    for _ in range(length):
        longest = [word + letter for word in longest for letter in letters]
        words.extend(longest)
    return words
