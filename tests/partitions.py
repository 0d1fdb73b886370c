"""Plain and slow partitions, congruences, and what is made of them."""

from itertools import combinations

from turnsandthrows.machines import make_machine

from tests.cascades import columns_machine, mixed_machines
from tests.tools import every_machine, random_machines, wheel_machine


def every_partition(count):
    """All partitions of so many numbers, as point 36 writes them, ascending."""
    rows = [()]
    for _ in range(count):
        rows = [row + (block,) for row in rows for block in range(max(row, default=-1) + 2)]
    return rows


def together(partition):
    """The set of the pairs that are in one block, the lesser number first."""
    return {pair for pair in combinations(range(len(partition)), 2) if partition[pair[0]] == partition[pair[1]]}


def is_finer(p, q):
    """Whether the first partition is finer than the second one."""
    return together(p) <= together(q)


def is_kept(machine, partition):
    """Whether each letter leads states of one block to states of one block."""
    return all(
        partition[machine[0][one][at]] == partition[machine[0][other][at]]
        for one, other in together(partition)
        for at in range(len(machine[0][0]))
    )


def all_congruences(machine):
    """All congruences of the machine, ascending."""
    return [row for row in every_partition(len(machine[0])) if is_kept(machine, row)]


def finest_of(partitions):
    """The one of the partitions that is finer than all of them."""
    return min(partitions, key=lambda row: len(together(row)))


def renumbered(marks):
    """The partition that has those with the same mark in one block."""
    firsts = [marks.index(mark) for mark in marks]
    return tuple(sorted(set(firsts)).index(first) for first in firsts)


def machines():
    """Machines of 1 to 6 states and 1 to 3 letters, with few congruences and with many."""
    yield from every_machine(1, 3)
    yield from list(every_machine(2, 2))[::7]
    yield from list(every_machine(3, 2))[::331]
    yield from random_machines(131, 60, 6, 3)
    yield from random_machines(132, 60, 6, 1)
    yield from mixed_machines(133, 100, 6)
    yield from mixed_machines(134, 60, 6, ("one", "climb"))
    for count in range(1, 7):
        yield wheel_machine(count)
        yield make_machine([[state] for state in range(count)], 0, [0])
        yield make_machine([[max(state - 1, 0)] for state in range(count)], 0, [0])
    yield columns_machine([(1, 2, 0, 4, 5, 3), (3, 4, 5, 0, 1, 2)])
    yield columns_machine([(1, 2, 0, 4, 5, 3), (3, 5, 4, 0, 2, 1)])
    yield columns_machine([(1, 0, 2, 3, 4, 5), (0, 1, 3, 2, 4, 5), (0, 1, 2, 3, 5, 4)])
