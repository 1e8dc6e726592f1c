"""Names, bases, and orders of a base with their inverted pairs."""

from ordermerge.errors import InvalidBase, InvalidOrder, UnknownItem

MAX_ITEMS = 40
MAX_NAME_LENGTH = 8


def is_name(value):
    """Tell for any value whether it is a name: one to eight characters from a to z."""
    if not isinstance(value, str) or not 1 <= len(value) <= MAX_NAME_LENGTH:
        return False
    return all(["a" <= letter <= "z" for letter in value])


def names_fault(value, most):
    """Return (problem, position) if the value is not a list of one to so many different names, or None if it is."""
    if not isinstance(value, list):
        return ("list", 0)
    seen = set()
    for at, name in enumerate(value):
        if not is_name(name):
            return ("name", at)
        if name in seen:
            return ("duplicate", at)
        seen.add(name)
    if not 1 <= len(value) <= most:
        return ("count", 0)
    return None


def check_items(items):
    """Raise InvalidBase for the first problem of a value that is to be the items of a base."""
    fault = names_fault(items, MAX_ITEMS)
    if fault is not None:
        problem, position = fault
        raise InvalidBase(problem, position)


class Base:
    """The agreed list of items that all orders are measured against. It never changes."""

    def __init__(self, items):
        check_items(items)
        self.listed = list(items)
        self.places = {name: at for at, name in enumerate(items)}

    def __eq__(self, other):
        return isinstance(other, Base) and self.listed == other.listed

    def __len__(self):
        return len(self.listed)

    def __repr__(self):
        return f"Base({self.listed!r})"

    def names(self):
        """Return the list of the items."""
        return list(self.listed)

    def has_item(self, value):
        """Tell for any value whether it is an item."""
        # Only names are looked up: a list or a dict could not be a key.
        return is_name(value) and value in self.places

    def position_of(self, item):
        """Return the position of an item."""
        if not self.has_item(item):
            raise UnknownItem(item)
        return self.places[item]

    def precedes(self, first, second):
        """Tell whether the position of first is smaller than that of second."""
        return self.position_of(first) < self.position_of(second)


def check_item(base, value):
    """Raise UnknownItem if the value is not an item of the base."""
    if not base.has_item(value):
        raise UnknownItem(value)


def pair_of(base, first, second):
    """Return two items, given in any sequence, as a tuple by rising position."""
    if base.precedes(first, second):
        return (first, second)
    return (second, first)


def order_fault(base, value):
    """Return the position that InvalidOrder has for this value, or None if the value is an order."""
    if not isinstance(value, list):
        return 0
    for at, name in enumerate(value):
        if not base.has_item(name) or name in value[:at]:
            return at
    if len(value) < len(base):
        return len(value)
    return None


def check_order(base, order):
    """Raise InvalidOrder if the value is not an order of the base."""
    fault = order_fault(base, order)
    if fault is not None:
        raise InvalidOrder(fault)


def is_order(base, value):
    """Tell for any value whether it is an order of the base."""
    return order_fault(base, value) is None


def is_inverted(base, order, first, second):
    """Tell whether two items stand in the order the other way round than in the base."""
    check_order(base, order)
    before_in_base = base.precedes(first, second)
    before_in_order = order.index(first) < order.index(second)
    return before_in_base != before_in_order


def inverted_pairs(base, order):
    """Return the list of the inverted pairs, by the position of first, then of second."""
    check_order(base, order)
    places = {name: at for at, name in enumerate(order)}
    names = base.names()
    return [
        (first, second)
        for at, first in enumerate(names)
        for second in names[at + 1:]
        if places[second] < places[first]
    ]
