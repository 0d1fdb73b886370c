"""Two cascades side by side."""

from turnsandthrows.cascade import Cascade
from turnsandthrows.machines import letters_of


def side_by_side(machine, p, first, q, second):
    """Return the right cascade for the machine that is made of those for two of its quotients."""
    shown = {}
    for state in range(len(machine[0])):
        rights = second.rows_of(q[state])
        for left in first.rows_of(p[state]):
            for right in rights:
                shown[left + right] = state
    rows = list(shown)
    letters = letters_of(machine)
    acts = acts_for(rows, letters, 0, first) + acts_for(rows, letters, len(first.widths), second)
    return Cascade(list(first.widths + second.widths), acts, shown)


def acts_for(rows, letters, offset, cascade):
    """Return the list of the dicts with the acts that the rows need for the levels of the cascade.

    The places of its rows stand in these rows from the offset on.
    """
    tables = []
    for level, acts in enumerate(cascade.acts):
        end = offset + level
        inner = {row[:end]: row[offset:end] for row in rows}
        tables.append({(prefix, letter): acts[(inner[prefix], letter)] for prefix in inner for letter in letters})
    return tables
