"""Permutations, and the groups that they generate."""

from math import factorial, lcm


def then(p, q):
    """Return first p and then q."""
    return tuple([q[place] for place in p])


def back(p):
    """Return the permutation that leads back what p leads."""
    there = [0] * len(p)
    for place, image in enumerate(p):
        there[image] = place
    return tuple(there)


def generated(places, permutations):
    """Return the least group that has all these permutations of so many places."""
    return sorted(grown(places, permutations, factorial(places)))


def grown(places, permutations, most):
    """Return a dict with the elements of the least group that has all these permutations.

    If the group has more than `most`, it is a dict with more than `most` of them.
    """
    makers = []
    group = products(places, makers, most)
    # Each maker at least doubles the group, so there are few of them, however long the list is.
    for permutation in permutations:
        if permutation not in group and len(group) <= most:
            makers.append(permutation)
            group = products(places, makers, most)
    return group


def products(places, makers, most):
    """Return a dict with what the makers, one after another, make; it ends above `most`."""
    queue = [tuple(range(places))]
    found = {queue[0]: True}
    at = 0
    while at < len(queue) and len(queue) <= most:
        for maker in makers:
            product = then(queue[at], maker)
            if product not in found:
                found[product] = True
                queue.append(product)
        at += 1
    return found


def order_of(p):
    """Return how many times p must be done to lead each place to itself, at least once."""
    order = 1
    for place in range(len(p)):
        order = lcm(order, cycle_length(p, place))
    return order


def cycle_length(p, place):
    """Return how many times p must be done to lead the place to itself, at least once."""
    length = 1
    there = p[place]
    while there != place:
        there = p[there]
        length += 1
    return length


def prime_numbers(count):
    """Return the list of the primes that divide the count, ascending."""
    found = []
    divisor = 2
    while count > 1:
        if count % divisor == 0:
            found.append(divisor)
        while count % divisor == 0:
            count = count // divisor
        divisor += 1
    return found
