"""Swaps of neighbouring items of an order, and the swaps from one order to another one."""

from ordermerge.bases import check_order, inverted_pairs
from ordermerge.errors import InvalidIndex
from ordermerge.integers import is_integer_from


def is_swap_index(base, value):
    """Tell for any value whether orders of the base can be swapped at this index."""
    return is_integer_from(value, 0, len(base) - 2)


def check_swap_index(base, index):
    """Raise InvalidIndex if orders of the base cannot be swapped at this index."""
    if not is_swap_index(base, index):
        raise InvalidIndex(index)


def exchanged(order, index):
    """Return the order after the swap at an index that is known to be valid."""
    return order[:index] + [order[index + 1], order[index]] + order[index + 2:]


def goes_outward(base, order, index):
    """Tell whether the swap at an index that is known to be valid is outward."""
    return base.precedes(order[index], order[index + 1])


def swapped(base, order, index):
    """Return the order after the swap at the index."""
    check_order(base, order)
    check_swap_index(base, index)
    return exchanged(order, index)


def is_outward(base, order, index):
    """Tell whether the swap at the index is outward: the pair of its items becomes inverted."""
    check_order(base, order)
    check_swap_index(base, index)
    return goes_outward(base, order, index)


def distance(base, order, other):
    """Return the number of pairs that are inverted in exactly one of two orders."""
    return len(set(inverted_pairs(base, order)) ^ set(inverted_pairs(base, other)))


def first_opposite(order, places):
    """Return the smallest index whose two items stand the opposite way by their places, or None."""
    for at in range(len(order) - 1):
        if places[order[at]] > places[order[at + 1]]:
            return at
    return None


def swaps_between(base, order, other):
    """Return the list of the indexes of the swaps from the first order to the other one."""
    check_order(base, order)
    check_order(base, other)
    places = {name: at for at, name in enumerate(other)}
    current = list(order)
    indexes = []
    index = first_opposite(current, places)
    while index is not None:
        indexes.append(index)
        current = exchanged(current, index)
        index = first_opposite(current, places)
    return indexes


def order_after_swaps(base, indexes):
    """Return the order to which the swaps at valid indexes lead, starting with the base's order."""
    order = base.names()
    for index in indexes:
        order = exchanged(order, index)
    return order


def pairs_of_swaps(base, indexes):
    """Return the pairs that outward swaps invert, in sequence, starting with the base's order."""
    order = base.names()
    pairs = []
    for index in indexes:
        pairs.append((order[index], order[index + 1]))
        order = exchanged(order, index)
    return pairs
