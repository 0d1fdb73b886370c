"""What words do to all states of a machine at once."""

from turnsandthrows.machines import lead, letters_of
from turnsandthrows.permutations import then
from turnsandthrows.walking import reached


def transformations(machine):
    """Return a dict from the transformations of the words to the least words that have them."""
    return reached(
        tuple(range(len(machine[0]))),
        letters_of(machine),
        lambda row, letter: tuple([lead(machine, state, letter) for state in row]),
    )


def settling(machine):
    """Return the least number k for which the powers k and k + 1 of each word are alike, or None."""
    most = 0
    for row in transformations(machine):
        count = settling_of(row)
        if count is None:
            return None
        most = max(most, count)
    return most


def settling_of(row):
    """Return the least number k for which the powers k and k + 1 of the row are the same, or None."""
    power = tuple(range(len(row)))
    # Each power that still changes something leads to fewer states than the one before it, or
    # turns states round for ever.
    for count in range(len(row)):
        following = then(power, row)
        if following == power:
            return count
        power = following
    return None
