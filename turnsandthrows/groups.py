"""Groups of permutations: their normal parts and their factors."""

from turnsandthrows.permutations import generated, grown, then


def is_group(permutations):
    """Return True if the list is a group, otherwise False."""
    places = len(permutations[0])
    return sorted(grown(places, permutations, len(permutations))) == permutations


def normal_part(group, element):
    """Return the normal part of the group with the element and the fewest elements."""
    return generated(len(element), turned(group, element))


def turned(group, element):
    """Return the list of what the group makes of the element: each g's way back, then it, then g."""
    found = {}
    for g in group:
        image = [0] * len(g)
        for place, there in enumerate(element):
            image[g[place]] = g[there]
        found[tuple(image)] = True
    return list(found)


def is_simple(group):
    """Return True if the group is simple, otherwise False."""
    return len(group) > 1 and len(next_part(group)) == 1


def factors(group):
    """Return the list of the factors of the group, descending."""
    sizes = [len(part) for part in row_of_parts(group)]
    quotients = [sizes[at] // sizes[at + 1] for at in range(len(sizes) - 1)]
    return sorted(quotients, reverse=True)


def row_of_parts(group):
    """Return a row of parts of the group, a list of groups."""
    row = [list(group)]
    while len(row[-1]) > 1:
        row.append(next_part(row[-1]))
    return row


def next_part(group):
    """Return a normal part of the group with fewer elements, to which none can be added.

    The group has more than one element.
    """
    part = generated(len(group[0]), [])
    # What is settled is in the part, or would make it grow to the whole group; what would do
    # so would also make each greater part do so.
    settled = {part[0]: True}
    for element in group:
        if element not in settled:
            images = turned(group, element)
            larger = generated(len(element), part + images)
            if len(larger) < len(group):
                part = larger
                images = part
            settle(settled, images, part)
    return part


def settle(settled, images, part):
    """Add to the dict each image, and each image then an element of the part."""
    for image in images:
        if image not in settled:
            for small in part:
                settled[then(image, small)] = True
