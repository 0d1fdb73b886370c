"""Words that lead several states of a machine to one."""

from itertools import combinations

from turnsandthrows.lots import lead_lot, lots_from
from turnsandthrows.machines import letters_of


def merging_word(machine, first, second):
    """Return the least word that leads two different states to one state, or None."""
    return single_word(machine, tuple(sorted([first, second])))


def resetting_word(machine):
    """Return the least word that resets the machine, or None if there is none."""
    return single_word(machine, tuple(range(len(machine[0]))))


def single_word(machine, lot):
    """Return the least word that leads all states of the lot to one state, or None."""
    # The lots stand in the order of the least words that lead to them.
    for there, word in lots_from(machine, lot).items():
        if len(there) == 1:
            return word
    return None


def rank(machine):
    """Return the least number of states of a lot to which some word leads the lot of all states."""
    return min([len(lot) for lot in lots_from(machine, tuple(range(len(machine[0]))))])


def apart(machine):
    """Return the list of the pairs of states that cannot be merged, ascending."""
    count = len(machine[0])
    pairs = list(combinations(range(count), 2))
    before = {}
    for pair in pairs:
        for letter in letters_of(machine):
            before.setdefault(lead_lot(machine, pair, letter), []).append(pair)
    # What leads to a pair that can be merged can be merged, too: so they are found from behind.
    queue = [(state,) for state in range(count)]
    merged = {}
    while len(queue) > 0:
        lot = queue.pop()
        for pair in before.get(lot, []):
            if pair not in merged:
                merged[pair] = True
                queue.append(pair)
    return [pair for pair in pairs if pair not in merged]
