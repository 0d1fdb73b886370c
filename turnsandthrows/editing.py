"""Machines that differ from another one by one edit."""

from turnsandthrows.errors import InvalidEdit
from turnsandthrows.machines import LETTERS, MOST_STATES, letters_of


def with_step(machine, state, letter, target):
    """Return the machine in which the step of the state for the letter is the target."""
    steps, start, good = machine
    check_state(machine, state)
    check_state(machine, target)
    if letter not in letters_of(machine):
        raise InvalidEdit(f"the machine does not have the letter {letter}")
    rows = [list(row) for row in steps]
    rows[state][LETTERS.index(letter)] = target
    return (tuple([tuple(row) for row in rows]), start, good)


def with_start(machine, state):
    """Return the machine whose start is the state."""
    check_state(machine, state)
    return (machine[0], state, machine[2])


def with_good(machine, state, good):
    """Return the machine in which the state is good if `good` is True, otherwise not."""
    check_state(machine, state)
    others = [other for other in machine[2] if other != state]
    if good:
        others.append(state)
    return (machine[0], machine[1], tuple(sorted(others)))


def with_state(machine):
    """Return the machine with one state more, whose steps lead to itself."""
    steps, start, good = machine
    if len(steps) == MOST_STATES:
        raise InvalidEdit(f"more than {MOST_STATES} states")
    return ((*steps, (len(steps),) * len(steps[0])), start, good)


def without_state(machine, state):
    """Return the machine without the state; what led to it leads to the start."""
    steps, start, good = machine
    check_state(machine, state)
    if state == start:
        raise InvalidEdit("the start is not dropped")
    numbers = [other - 1 if other > state else other for other in range(len(steps))]
    numbers[state] = numbers[start]
    rows = [[numbers[there] for there in row] for other, row in enumerate(steps) if other != state]
    left = [numbers[other] for other in good if other != state]
    return (tuple([tuple(row) for row in rows]), numbers[start], tuple(left))


def with_letter(machine):
    """Return the machine with the next letter, too, which leads each state to itself."""
    steps, start, good = machine
    if len(steps[0]) == len(LETTERS):
        raise InvalidEdit(f"more than {len(LETTERS)} letters")
    return (tuple([(*row, state) for state, row in enumerate(steps)]), start, good)


def without_letter(machine):
    """Return the machine without its last letter."""
    steps, start, good = machine
    if len(steps[0]) == 1:
        raise InvalidEdit("the only letter is not dropped")
    return (tuple([row[:-1] for row in steps]), start, good)


def check_state(machine, state):
    """Raise InvalidEdit if the integer is not a state of the machine."""
    if not 0 <= state < len(machine[0]):
        raise InvalidEdit(f"a state or target is none of the {len(machine[0])} states")
