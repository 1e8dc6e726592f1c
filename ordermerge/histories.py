"""Histories: lists of pairs in the sequence in which the entries of a log can invert them."""

from ordermerge.errors import BrokenHistory
from ordermerge.pair_sets import check_pairs, pairs_fault
from ordermerge.swap_log import NO_REASON, check_reason, log_from_entries
from ordermerge.swaps import exchanged, pairs_of_swaps


def pairs_of_log(log):
    """Return the list of the pairs that the entries invert, in sequence."""
    return pairs_of_swaps(log.base(), log.indexes())


def swaps_of_pairs(base, pairs):
    """Return the indexes of the swaps that invert different pairs in sequence, as far as there are such swaps."""
    order = base.names()
    indexes = []
    for first, second in pairs:
        at = order.index(first)
        # One more pair makes another inversion set only if its two items are neighbours.
        if order[at + 1:at + 2] != [second]:
            return indexes
        indexes.append(at)
        order = exchanged(order, at)
    return indexes


def first_break(base, pairs):
    """Return the smallest count such that the first so many pairs are not an inversion set, or None."""
    check_pairs(base, pairs)
    count = len(swaps_of_pairs(base, pairs))
    return None if count == len(pairs) else count + 1


def is_history(base, value):
    """Tell for any value whether it is a history."""
    return pairs_fault(base, value) is None and first_break(base, value) is None


def log_from_pairs(base, pairs, *, reason=NO_REASON):
    """Return the SwapLog whose entries invert these pairs in sequence, all with this reason."""
    check_pairs(base, pairs)
    check_reason(reason)
    broken = first_break(base, pairs)
    if broken is not None:
        raise BrokenHistory(broken)
    return log_from_entries(base, [(index, reason) for index in swaps_of_pairs(base, pairs)])
