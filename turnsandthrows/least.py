"""The least machine of a machine, and of what two machines accept together."""

from turnsandthrows.errors import LettersDiffer, TooManyStates
from turnsandthrows.machines import MOST_STATES, lead, letters_of
from turnsandthrows.walking import reached


def least(machine):
    """Return the least machine of the machine."""
    return least_from(
        machine[1],
        letters_of(machine),
        lambda state, letter: lead(machine, state, letter),
        lambda state: state in machine[2],
        len(machine[0]),
    )


def complement(machine):
    """Return the least machine that accepts exactly the words that the machine does not."""
    steps, start, good = machine
    return least((steps, start, tuple([state for state in range(len(steps)) if state not in good])))


def difference(first, second):
    """Return the least word that exactly one of the two machines accepts, or None."""
    words = reached((first[1], second[1]), common_letters(first, second), pair_step(first, second))
    for pair, word in words.items():
        if (pair[0] in first[2]) != (pair[1] in second[2]):
            return word
    return None


def join(first, second, way):
    """Return the least machine of the words that both, either or one of the two accept."""
    return least_from(
        (first[1], second[1]),
        common_letters(first, second),
        pair_step(first, second),
        lambda pair: joined(pair[0] in first[2], pair[1] in second[2], way),
        MOST_STATES,
    )


def joined(one, other, way):
    """Return what the way of joining makes of two truths."""
    if way == "both":
        return one and other
    if way == "either":
        return one or other
    return one != other


def common_letters(first, second):
    """Return the text of the letters of both machines, or raise LettersDiffer."""
    letters = letters_of(first)
    if letters != letters_of(second):
        raise LettersDiffer(f"letters {letters} and {letters_of(second)}")
    return letters


def pair_step(first, second):
    """Return the function that leads a pair of states of the two machines by a letter."""
    return lambda pair, letter: (lead(first, pair[0], letter), lead(second, pair[1], letter))


def least_from(origin, letters, step, is_good, most):
    """Return the least machine that accepts the words that lead the origin to something good.

    Raises TooManyStates if it has more than `most` states.
    """
    places = list(reached(origin, letters, step))
    numbers = {place: at for at, place in enumerate(places)}
    rows = [[numbers[step(place, letter)] for letter in letters] for place in places]
    blocks = alike(rows, [is_good(place) for place in places], most)
    steps = []
    good = []
    for at, block in enumerate(blocks):
        # Blocks are numbered as they first come, so a new one has the next number.
        if block == len(steps):
            steps.append(tuple([blocks[there] for there in rows[at]]))
            if is_good(places[at]):
                good.append(block)
    return (tuple(steps), 0, tuple(good))


def alike(rows, marks, most):
    """Return for each place the number of its block: of the places not told apart by a word.

    The blocks are numbered as they first come. Raises TooManyStates if there are more than
    `most`, as soon as that is certain.
    """
    blocks = marks
    count = 0
    while True:
        numbers = {}
        finer = []
        for at, row in enumerate(rows):
            key = (blocks[at], tuple([blocks[there] for there in row]))
            finer.append(numbers.setdefault(key, len(numbers)))
        if len(numbers) > most:
            raise TooManyStates(f"more than {most} states")
        if len(numbers) == count:
            return finer
        blocks = finer
        count = len(numbers)
