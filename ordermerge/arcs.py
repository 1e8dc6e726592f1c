"""Arcs: the description of an order that contains nothing superfluous."""

from ordermerge.bases import check_order
from ordermerge.errors import InvalidArcs
from ordermerge.merging import is_within, join_orders
from ordermerge.pair_sets import is_pair


def is_arc(base, value):
    """Tell for any value whether it is an arc (lower, upper, passed)."""
    if not isinstance(value, tuple) or len(value) != 3:
        return False
    lower, upper, passed = value
    if not is_pair(base, (lower, upper)) or not isinstance(passed, tuple):
        return False
    if not all([base.has_item(name) for name in passed]):
        return False
    path = [lower, *passed, upper]
    return all([base.precedes(left, right) for left, right in zip(path, path[1:])])


def arcs_fault(base, value):
    """Return the position that InvalidArcs has for this value, or None if it is a list of arcs."""
    if not isinstance(value, list):
        return 0
    for at, arc in enumerate(value):
        if not is_arc(base, arc):
            return at
    return None


def names_between(base, lower, upper):
    """Return the items whose positions lie between those of two items, by rising position."""
    return base.names()[base.position_of(lower) + 1:base.position_of(upper)]


def arcs_of(base, order):
    """Return the list of the arcs of an order, by the position of lower."""
    check_order(base, order)
    found = {}
    for at in range(len(order) - 1):
        upper, lower = order[at], order[at + 1]
        if base.precedes(lower, upper):
            passed = [name for name in names_between(base, lower, upper) if name in order[:at]]
            found[lower] = (lower, upper, tuple(passed))
    return [found[name] for name in base.names() if name in found]


def order_of_arc(base, arc):
    """Return the order of an arc."""
    if not is_arc(base, arc):
        raise InvalidArcs(0)
    lower, upper, passed = arc
    low, high = base.position_of(lower), base.position_of(upper)
    others = [name for name in names_between(base, lower, upper) if name not in passed]
    names = base.names()
    return names[:low] + [*passed, upper, lower, *others] + names[high + 1:]


def join_of_arcs(base, arcs):
    """Return the join of the orders of a list of arcs."""
    fault = arcs_fault(base, arcs)
    if fault is not None:
        raise InvalidArcs(fault)
    return join_orders(base, [order_of_arc(base, arc) for arc in arcs])


def is_reduced(base, value):
    """Tell for any value whether it is a list of the arcs of some order, each once, in any sequence."""
    if arcs_fault(base, value) is not None:
        return False
    # The only order that can have these arcs is their join.
    arcs = arcs_of(base, join_of_arcs(base, value))
    return len(arcs) == len(value) and all([arc in value for arc in arcs])


def is_arc_within(base, arc, order):
    """Tell whether the order of the arc is within the order."""
    return is_within(base, order_of_arc(base, arc), order)


def supporters(base, orders):
    """Return tuples (arc, indexes): each arc of the join of the orders, and which of the orders support it."""
    return [
        (arc, [index for index, order in enumerate(orders) if is_arc_within(base, arc, order)])
        for arc in arcs_of(base, join_orders(base, orders))
    ]
