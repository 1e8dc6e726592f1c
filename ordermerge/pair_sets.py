"""Lists of different pairs, and which of them are the inverted pairs of an order."""

from ordermerge.bases import check_item
from ordermerge.errors import InvalidPairs, Obstructed


def is_pair(base, value):
    """Tell for any value whether it is a tuple of two items of which the first has the smaller position."""
    if not isinstance(value, tuple) or len(value) != 2:
        return False
    return base.has_item(value[0]) and base.has_item(value[1]) and base.precedes(value[0], value[1])


def pairs_fault(base, value):
    """Return the position that InvalidPairs has for this value, or None if it is a list of different pairs."""
    if not isinstance(value, list):
        return 0
    seen = set()
    for at, pair in enumerate(value):
        if not is_pair(base, pair) or pair in seen:
            return at
        seen.add(pair)
    return None


def check_pairs(base, pairs):
    """Raise InvalidPairs if the value is not a list of different pairs."""
    fault = pairs_fault(base, pairs)
    if fault is not None:
        raise InvalidPairs(fault)


def triples(names):
    """Return all triples of names with rising positions, by the position of the first, the second, the third."""
    return [
        (first, second, third)
        for low, first in enumerate(names)
        for middle, second in enumerate(names)
        if low < middle
        for third in names[middle + 1:]
    ]


def kind_of_obstruction(lower, upper, outer):
    """Return the kind, or None, from whether (first, second), (second, third) and (first, third) are listed."""
    if lower and upper and not outer:
        return "composed"
    if outer and not lower and not upper:
        return "split"
    return None


def obstruction(base, pairs):
    """Return the first obstruction (kind, first, second, third) of the pairs, or None."""
    check_pairs(base, pairs)
    listed = {pair: True for pair in pairs}
    for first, second, third in triples(base.names()):
        lower = (first, second) in listed
        upper = (second, third) in listed
        outer = (first, third) in listed
        kind = kind_of_obstruction(lower, upper, outer)
        if kind is not None:
            return (kind, first, second, third)
    return None


def is_inversion_set(base, pairs):
    """Tell whether the pairs are exactly the inverted pairs of some order."""
    return obstruction(base, pairs) is None


def order_from_pairs(base, pairs):
    """Return the order whose inverted pairs these are."""
    found = obstruction(base, pairs)
    if found is not None:
        raise Obstructed(found)
    listed = {pair: True for pair in pairs}
    order = []
    for upper in base.names():
        # Without an obstruction, the items that it passes are the last ones of those that stand already.
        passed = len([lower for lower in order if (lower, upper) in listed])
        order.insert(len(order) - passed, upper)
    return order


def part_about(base, pairs, first, second, third):
    """Return the part of the list of pairs about three items, in sequence."""
    check_pairs(base, pairs)
    chosen = [first, second, third]
    for item in chosen:
        check_item(base, item)
    return [pair for pair in pairs if pair[0] in chosen and pair[1] in chosen]
