"""Partitions of states, congruences, and the quotients by them."""

from itertools import combinations


def is_congruence(machine, partition):
    """Return True if the tuple is a congruence of the machine as one is written, otherwise False."""
    if len(partition) != len(machine[0]) or numbered(partition) != partition:
        return False
    led = {}
    for state, row in enumerate(machine[0]):
        images = tuple([partition[there] for there in row])
        if led.setdefault(partition[state], images) != images:
            return False
    return True


def numbered(marks):
    """Return the partition that has those with the same mark in one block."""
    numbers = {}
    return tuple([numbers.setdefault(mark, len(numbers)) for mark in marks])


def merged(blocks, first, second):
    """Return the list of the blocks in which the second block is one with the first one."""
    return [first if block == second else block for block in blocks]


def meet_of(p, q):
    """Return the meet of two partitions."""
    return numbered(list(zip(p, q)))


def join_of(p, q):
    """Return the join of two partitions."""
    blocks = list(p)
    firsts = {}
    for at, block in enumerate(q):
        first = firsts.setdefault(block, at)
        blocks = merged(blocks, blocks[first], blocks[at])
    return numbered(blocks)


def least_congruence(machine, first, second):
    """Return the finest congruence that has the two states in one block."""
    steps = machine[0]
    blocks = list(range(len(steps)))
    fresh = [(first, second)]
    while len(fresh) > 0:
        one, other = fresh.pop()
        if blocks[one] != blocks[other]:
            blocks = merged(blocks, blocks[one], blocks[other])
            fresh.extend(list(zip(steps[one], steps[other])))
    return numbered(blocks)


def least_congruences(machine):
    """Return the list of the finest congruences that have two different states in one block.

    Each once, ascending. Each congruence but the finest partition has one of them that is finer.
    """
    return sorted({least_congruence(machine, first, second) for first, second in pairs_of(machine)})


def pairs_of(machine):
    """Return the list of the pairs of different states, ascending."""
    return list(combinations(range(len(machine[0])), 2))


def congruences(machine):
    """Return the list of all congruences, ascending."""
    found = {tuple(range(len(machine[0]))): True}
    # A congruence is the join of the least congruences of all pairs that it has in one block.
    for congruence in least_congruences(machine):
        for other in list(found):
            found[join_of(other, congruence)] = True
    return sorted(found)


def quotient(machine, partition):
    """Return the quotient of the machine by the congruence."""
    rows = {}
    for state, row in enumerate(machine[0]):
        rows[partition[state]] = tuple([partition[there] for there in row])
    return (tuple([rows[block] for block in range(len(rows))]), partition[machine[1]], ())


def parting(machine):
    """Return a pair of congruences with which the machine can be parted, or None."""
    finest = tuple(range(len(machine[0])))
    # If two congruences do it, so do finer ones that are not the finest partition.
    finer = least_congruences(machine)
    for p, q in combinations(finer, 2):
        if meet_of(p, q) == finest:
            return (p, q)
    return None


def bound_pair(machine):
    """Return the least pair of states in one block of each congruence but the finest, or None."""
    # A pair that is in one block of a congruence is so in each one than which this one is finer.
    finer = least_congruences(machine)
    for first, second in pairs_of(machine):
        if all([congruence[first] == congruence[second] for congruence in finer]):
            return (first, second)
    return None
