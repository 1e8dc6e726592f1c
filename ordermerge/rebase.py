"""Adding an item to the base of a swap log, and removing one."""

from ordermerge.bases import Base, check_item
from ordermerge.errors import LastItem
from ordermerge.swap_log import log_from_entries
from ordermerge.swaps import exchanged


def with_item(log, item):
    """Return a SwapLog in which the item is the last one of the base and of the order; the entries stay."""
    return log_from_entries(Base(log.base().names() + [item]), log.entries())


def entries_without(log, item):
    """Return the entries that did not move the item, with their indexes in the orders without it."""
    order = log.base().names()
    kept = []
    for index, reason in log.entries():
        place = order.index(item)
        if place < index:
            kept.append((index - 1, reason))
        elif place > index + 1:
            kept.append((index, reason))
        order = exchanged(order, index)
    return kept


def without_item(log, item):
    """Return a SwapLog without the item, and without the entries that moved it."""
    base = log.base()
    check_item(base, item)
    if len(base) == 1:
        raise LastItem(item)
    names = [name for name in base.names() if name != item]
    return log_from_entries(Base(names), entries_without(log, item))
