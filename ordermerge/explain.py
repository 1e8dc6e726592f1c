"""Chains that show why a pair is inverted in the join of orders, or not inverted in their meet."""

from ordermerge.bases import check_item, is_inverted, pair_of
from ordermerge.errors import SameItem
from ordermerge.integers import is_integer_from
from ordermerge.merging import check_orders
from ordermerge.pair_sets import is_pair


def check_explained(base, orders, first, second):
    """Raise the error for orders that are no orders, or for items that are no two different items."""
    check_orders(base, orders)
    check_item(base, first)
    check_item(base, second)
    if first == second:
        raise SameItem(first)


def places_in(orders):
    """Return for each order a dict from its items to their indexes."""
    return [{name: at for at, name in enumerate(order)} for order in orders]


def index_that_shows(places, lower, upper, inverted):
    """Return the index of the first order in which the pair is inverted, or is not inverted, or None."""
    for index, place in enumerate(places):
        if (place[upper] < place[lower]) == inverted:
            return index
    return None


def shortest_chain(base, orders, pair, inverted):
    """Return a chain (inverted is True) or a meet chain (it is False) for a pair with as few tuples as possible."""
    first, second = pair
    low, high = base.position_of(first), base.position_of(second)
    places = places_in(orders)
    # For each item to which a chain leads, one of the shortest.
    chains = {first: []}
    for upper in base.names()[low + 1:high + 1]:
        options = []
        for lower in chains:
            index = index_that_shows(places, lower, upper, inverted)
            if index is not None:
                options.append(chains[lower] + [(lower, upper, index)])
        if options:
            chains[upper] = min(options, key=len)
    return chains.get(second)


def explain_inverted(base, orders, first, second):
    """Return a chain for the pair of two items, or None if the pair is not inverted in the join."""
    check_explained(base, orders, first, second)
    return shortest_chain(base, orders, pair_of(base, first, second), True)


def explain_upright(base, orders, first, second):
    """Return a meet chain for the pair of two items, or None if the pair is inverted in the meet."""
    check_explained(base, orders, first, second)
    return shortest_chain(base, orders, pair_of(base, first, second), False)


def is_link(base, orders, value, inverted):
    """Tell for any value whether it can be a tuple of a chain (inverted is True) or of a meet chain."""
    if not isinstance(value, tuple) or len(value) != 3:
        return False
    lower, upper, index = value
    if not is_pair(base, (lower, upper)) or not is_integer_from(index, 0, len(orders) - 1):
        return False
    return is_inverted(base, orders[index], lower, upper) == inverted


def links_pair(base, orders, pair, value, inverted):
    """Tell for any value whether it is a chain (inverted is True) or a meet chain for the pair."""
    if not isinstance(value, list) or not value:
        return False
    if not all([is_link(base, orders, link, inverted) for link in value]):
        return False
    lowers = [link[0] for link in value]
    uppers = [link[1] for link in value]
    return lowers + [pair[1]] == [pair[0]] + uppers


def is_chain(base, orders, first, second, value):
    """Tell for any value whether it is a chain for the pair of two items."""
    check_explained(base, orders, first, second)
    return links_pair(base, orders, pair_of(base, first, second), value, True)


def is_meet_chain(base, orders, first, second, value):
    """Tell for any value whether it is a meet chain for the pair of two items."""
    check_explained(base, orders, first, second)
    return links_pair(base, orders, pair_of(base, first, second), value, False)
