"""Pieces, and their prime cascades of throwing and turning levels."""

from turnsandthrows.cascade import Cascade
from turnsandthrows.groups import is_simple, row_of_parts
from turnsandthrows.judging import is_permutation, is_reset, used_acts
from turnsandthrows.machines import LETTERS
from turnsandthrows.permutations import back, generated, then


def piece_machine(acts):
    """Return the machine of the piece."""
    steps = [tuple([act[place] for act in acts]) for place in range(len(acts[0]))]
    return (tuple(steps), 0, ())


def split(acts):
    """Return a prime cascade for the machine of the piece.

    Its turning levels keep the permutation that the letters have made in all; resets leave it.
    Its throwing levels keep the origin, the place that this permutation leads to the place of
    the piece; permutations leave it.
    """
    parts = row_of_parts(generated(len(acts[0]), [act for act in acts if is_permutation(act)]))
    widths = [len(parts[at]) // len(parts[at + 1]) for at in range(len(parts) - 1)]
    rows = rows_in(parts)
    bits = (len(acts[0]) - 1).bit_length()
    shown = {}
    for made, row in rows.items():
        for origin, place in enumerate(made):
            shown[row + bits_of(origin, bits)] = place
    tables = turning_acts(acts, widths, rows) + throwing_acts(acts, bits, rows)
    return Cascade(widths + [2] * bits, tables, shown)


def rows_in(parts):
    """Return a dict from each permutation of the first of the parts to its row of places.

    The first place tells in which of the lots it is that are made by all of the next part and
    then one permutation; the other places are those of what the next part has done to it.
    """
    if len(parts) == 1:
        return {parts[0][0]: ()}
    inner = rows_in(parts[1:])
    rows = {}
    count = 0
    for permutation in parts[0]:
        if permutation not in rows:
            for small, row in inner.items():
                rows[then(small, permutation)] = (count, *row)
            count += 1
    return rows


def turning_acts(acts, widths, rows):
    """Return the list of the dicts with the acts of the turning levels."""
    tables = [{} for _ in widths]
    for made, row in rows.items():
        for letter, act in zip(LETTERS, acts):
            there = rows[then(made, act)] if is_permutation(act) else row
            for level, width in enumerate(widths):
                images = tables[level].setdefault((row[:level], letter), [0] * width)
                images[row[level]] = there[level]
    return [{key: tuple(images) for key, images in table.items()} for table in tables]


def throwing_acts(acts, bits, rows):
    """Return the list of the dicts with the acts of the throwing levels, one for each bit."""
    tables = [{} for _ in range(bits)]
    for made, row in rows.items():
        origins = back(made)
        for letter, act in zip(LETTERS, acts):
            thrown = bits_of(origins[act[0]], bits)
            for origin in origins:
                code = bits_of(origin, bits)
                for bit in range(bits):
                    key = (row + code[:bit], letter)
                    tables[bit][key] = (0, 1) if is_permutation(act) else (thrown[bit], thrown[bit])
    return tables


def bits_of(number, count):
    """Return the tuple of so many binary digits of the number."""
    return tuple([(number >> at) & 1 for at in range(count)])


def is_prime(machine, cascade):
    """Return True if the cascade, which is right for the machine, is prime, otherwise False."""
    for level, width in enumerate(cascade.widths):
        acts = used_acts(machine, cascade, level)
        if not is_throwing(acts, width) and not is_turning(acts, width):
            return False
    return True


def is_throwing(acts, width):
    """Return True if a level with these acts and so many places is throwing, otherwise False."""
    return width == 2 and all([is_reset(act) or act == (0, 1) for act in acts])


def is_turning(acts, width):
    """Return True if a level with these acts and so many places is turning, otherwise False."""
    if not all([is_permutation(act) for act in acts]):
        return False
    group = generated(width, acts)
    if len(group) != width or len({permutation[0] for permutation in group}) != width:
        return False
    return is_simple(group)
