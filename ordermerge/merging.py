"""Merging: the join and the meet of orders."""

from ordermerge.bases import Base, inverted_pairs, is_order
from ordermerge.errors import InvalidOrders
from ordermerge.pair_sets import order_from_pairs


def orders_fault(base, value):
    """Return the position that InvalidOrders has for this value, or None if it is a list of orders."""
    if not isinstance(value, list):
        return 0
    for at, order in enumerate(value):
        if not is_order(base, order):
            return at
    return None


def check_orders(base, orders):
    """Raise InvalidOrders if the value is not a list of orders."""
    fault = orders_fault(base, orders)
    if fault is not None:
        raise InvalidOrders(fault)


def is_within(base, order, other):
    """Tell whether each pair that is inverted in the order is inverted in the other one too."""
    inner = inverted_pairs(base, order)
    outer = {pair: True for pair in inverted_pairs(base, other)}
    return all([pair in outer for pair in inner])


def composed(names, listed):
    """Return the listed pairs, keys of a dict, with all pairs that can be composed of them step by step."""
    result = {pair: True for pair in listed}
    for middle in names:
        lowers = [name for name in names if (name, middle) in result]
        uppers = [name for name in names if (middle, name) in result]
        for lower in lowers:
            for upper in uppers:
                result[(lower, upper)] = True
    return result


def join_orders(base, orders):
    """Return the join: the smallest order in which all of the orders are within."""
    check_orders(base, orders)
    inverted = {pair: True for order in orders for pair in inverted_pairs(base, order)}
    return order_from_pairs(base, list(composed(base.names(), inverted)))


def meet_orders(base, orders):
    """Return the meet: the greatest order that is within all of the orders."""
    # With the base reversed, greater and smaller are exchanged.
    return join_orders(Base(base.names()[::-1]), orders)
