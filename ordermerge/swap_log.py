"""Swap logs: an order together with the outward swaps, each with a reason, that lead to it."""

from ordermerge.bases import check_item, check_order, is_name, pair_of
from ordermerge.errors import InvalidCount, InvalidEntries, InvalidIndex, InvalidPosition, InvalidReason
from ordermerge.integers import is_integer_from
from ordermerge.swaps import (
    check_swap_index, exchanged, goes_outward, is_swap_index, order_after_swaps, pairs_of_swaps, swaps_between,
)

NO_REASON = ""


def is_reason(value):
    """Tell for any value whether it is a reason: a name or the empty string."""
    return is_name(value) or (isinstance(value, str) and value == NO_REASON)


def check_reason(reason):
    """Raise InvalidReason if the value is not a reason."""
    if not is_reason(reason):
        raise InvalidReason(reason)


class SwapLog:
    """An order of a base, and the entries (index, reason) that lead to it from the base's order."""

    def __init__(self, base):
        self.ground = base
        self.current = base.names()
        self.rows = []

    def __eq__(self, other):
        return isinstance(other, SwapLog) and self.ground == other.ground and self.rows == other.rows

    def __len__(self):
        return len(self.rows)

    def __repr__(self):
        return f"SwapLog({self.current!r}, {self.rows!r})"

    def base(self):
        """Return the base."""
        return self.ground

    def order(self):
        """Return the order."""
        return list(self.current)

    def entries(self):
        """Return the list of the entries."""
        return list(self.rows)

    def indexes(self):
        """Return the list of the indexes of the entries."""
        return [index for index, reason in self.rows]

    def swap(self, index, *, reason=NO_REASON):
        """Perform a swap. Return None if it was outward, else the position of the entry that it cancelled."""
        check_swap_index(self.ground, index)
        check_reason(reason)
        return self.swap_checked(index, reason)

    def swap_checked(self, index, reason):
        """Do what swap does, with an index and a reason that are known to be valid."""
        if goes_outward(self.ground, self.current, index):
            cancelled = None
            self.rows.append((index, reason))
        else:
            cancelled = self.entry_for(self.current[index], self.current[index + 1])
            self.rows.pop(cancelled)
        self.current = exchanged(self.current, index)
        return cancelled

    def swap_each(self, indexes, reason):
        """Perform several swaps that are known to be valid. Return how many entries they added and cancelled."""
        cancelled = 0
        for index in indexes:
            if self.swap_checked(index, reason) is not None:
                cancelled += 1
        return (len(indexes) - cancelled, cancelled)

    def move(self, item, index, *, reason=NO_REASON):
        """Move an item to the index by swaps with its neighbours. Return how many entries were added and cancelled."""
        check_item(self.ground, item)
        if not is_integer_from(index, 0, len(self.ground) - 1):
            raise InvalidIndex(index)
        check_reason(reason)
        start = self.current.index(item)
        if start < index:
            return self.swap_each(list(range(start, index)), reason)
        return self.swap_each(list(range(start - 1, index - 1, -1)), reason)

    def adopt(self, order, *, reason=NO_REASON):
        """Perform the swaps to the given order. Return how many entries were added and cancelled."""
        check_order(self.ground, order)
        check_reason(reason)
        return self.swap_each(swaps_between(self.ground, self.current, order), reason)

    def check_position(self, position):
        """Raise InvalidPosition if no entry has this position."""
        if not is_integer_from(position, 0, len(self.rows) - 1):
            raise InvalidPosition(position)

    def remove_entry(self, position):
        """Remove an entry. Return the rising list of the former positions of all entries that are gone."""
        self.check_position(position)
        former = self.entries()
        again = SwapLog(self.ground)
        # The former position of each entry of the new log.
        places = []
        for at, (index, reason) in enumerate(former):
            if at != position:
                cancelled = again.swap_checked(index, reason)
                if cancelled is None:
                    places.append(at)
                else:
                    places.pop(cancelled)
        self.current = again.order()
        self.rows = again.entries()
        return [at for at in range(len(former)) if at not in places]

    def clear_entries(self):
        """Remove all entries; the order is the base's."""
        self.current = self.ground.names()
        self.rows = []

    def order_after(self, count):
        """Return the order after the first entries, as many as count says."""
        if not is_integer_from(count, 0, len(self.rows)):
            raise InvalidCount(count)
        return order_after_swaps(self.ground, self.indexes()[:count])

    def pair_at(self, position):
        """Return the pair that the entry at this position inverts."""
        self.check_position(position)
        return pairs_of_swaps(self.ground, self.indexes())[position]

    def entry_for(self, first, second):
        """Return the position of the entry that inverts the pair of two items, or None."""
        pair = pair_of(self.ground, first, second)
        # The pairs are found anew each time: a cancelled entry changes which pairs the later ones invert.
        pairs = pairs_of_swaps(self.ground, self.indexes())
        return pairs.index(pair) if pair in pairs else None

    def clone(self):
        """Return an independent copy."""
        other = SwapLog(self.ground)
        other.current = self.order()
        other.rows = self.entries()
        return other


def is_entry(base, value):
    """Tell for any value whether it is a tuple of an index and a reason."""
    if not isinstance(value, tuple) or len(value) != 2:
        return False
    return is_swap_index(base, value[0]) and is_reason(value[1])


def log_from_entries(base, entries):
    """Return the SwapLog with these entries."""
    if not isinstance(entries, list):
        raise InvalidEntries(0)
    log = SwapLog(base)
    for at, entry in enumerate(entries):
        if not is_entry(base, entry) or not goes_outward(base, log.order(), entry[0]):
            raise InvalidEntries(at)
        log.swap_checked(entry[0], entry[1])
    return log
