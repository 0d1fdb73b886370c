"""Taking machines apart: a right cascade for every machine, made from its lots.

A prefix of a row stands for a lot in which the state is: at first for the lot of all states.
Each level has the lots that words lead to each other and back. Where the prefix stands for one
of these, the place chooses one of its bricks, the greatest lots within it; elsewhere it is 0.
A letter either leads the bricks of one lot of the level to those of another one, and so permutes
the places, or it leads the whole lot into one brick, and so resets them.
"""

from turnsandthrows.cascade import Cascade
from turnsandthrows.lots import lead_lot, lots, lots_from
from turnsandthrows.machines import letters_of


def decompose(machine):
    """Return a right cascade for the machine, whose groups have only primes of the machine."""
    held = {(): tuple(range(len(machine[0])))}
    led = {((), letter): () for letter in letters_of(machine)}
    widths = []
    acts = []
    for bricks in levels_of(machine):
        table = {}
        for (prefix, letter), there in led.items():
            table[(prefix, letter)] = act_at(machine, bricks, letter, held[prefix], held[there])
        widths.append(width_of(bricks))
        acts.append(table)
        led = led_deeper(bricks, held, led, table)
        held = held_deeper(bricks, held)
    return Cascade(widths, acts, {row: lot[0] for row, lot in held.items()})


def levels_of(machine):
    """Return the list of the levels: dicts from the lots of a level to the lists of their bricks.

    All lots of a level have as many bricks, in such an order that the words which lead the first
    lot to the others lead its bricks to theirs.
    """
    found = lots(machine)
    wide = [lot for lot in found if len(lot) > 1]
    ways = {lot: lots_from(machine, lot) for lot in wide}
    levels = []
    # A lot that is led to another one, but not back, must come first; it is led to more lots.
    for lot in sorted(wide, key=lambda each: (-len(each), -len(ways[each]))):
        if not any([lot in bricks for bricks in levels]):
            level = {}
            for other in wide:
                if other in ways[lot] and lot in ways[other]:
                    word = ways[lot][other]
                    level[other] = [lead_lot(machine, brick, word) for brick in bricks_of(lot, found)]
            levels.append(level)
    return levels


def bricks_of(lot, found):
    """Return the list of the greatest of the found lots that are parts of the lot, but not it."""
    parts = [other for other in found if other != lot and is_part(other, lot)]
    return [part for part in parts if not any([is_part(part, other) for other in parts if other != part])]


def is_part(small, large):
    """Return True if all states of the small lot are in the large one, otherwise False."""
    return all([state in large for state in small])


def width_of(bricks):
    """Return the number of places of the level."""
    return max([len(each) for each in bricks.values()])


def act_at(machine, bricks, letter, lot, there):
    """Return the act of the level where prefixes that stand for the two lots are led by the letter."""
    image = lead_lot(machine, lot, letter)
    if lot in bricks and there in bricks and image == there:
        return tuple([bricks[there].index(lead_lot(machine, brick, letter)) for brick in bricks[lot]])
    # A lot outside of the level that is led onto all of a lot of it had its bricks chosen at a
    # level before; so the image is not all of a lot with bricks, but within one of them.
    places = [place for place, brick in enumerate(bricks.get(there, [there])) if is_part(image, brick)]
    return (places[0],) * width_of(bricks)


def held_deeper(bricks, held):
    """Return a dict from the prefixes with one place more to the lots for which they stand."""
    deeper = {}
    for prefix, lot in held.items():
        for place, brick in enumerate(bricks.get(lot, [lot])):
            deeper[prefix + (place,)] = brick
    return deeper


def led_deeper(bricks, held, led, table):
    """Return a dict from pairs of prefixes with one place more and letters to where they are led."""
    deeper = {}
    for (prefix, letter), there in led.items():
        act = table[(prefix, letter)]
        for place in range(len(bricks.get(held[prefix], [prefix]))):
            deeper[(prefix + (place,), letter)] = there + (act[place],)
    return deeper
