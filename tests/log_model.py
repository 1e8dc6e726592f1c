"""A second, plain description of swap logs, against which the tests compare the package's."""


def exchange(order, index):
    order[index], order[index + 1] = order[index + 1], order[index]


def replay(names, entries):
    """Return the order to which entries lead, and the tuples of the left and the right item of their swaps."""
    order, exchanged = list(names), []
    for index, reason in entries:
        exchanged.append((order[index], order[index + 1]))
        exchange(order, index)
    return order, exchanged


def model_swap(names, entries, index, reason):
    """Return the entries after a swap, and the position of the cancelled entry or None."""
    order, exchanged = replay(names, entries)
    left, right = order[index], order[index + 1]
    if names.index(left) < names.index(right):
        return entries + [(index, reason)], None
    position = exchanged.index((right, left))
    return entries[:position] + entries[position + 1:], position


def model_swaps(names, entries, indexes, reason):
    """Return the entries after several swaps, and how many entries were added and cancelled."""
    added = cancelled = 0
    for index in indexes:
        entries, position = model_swap(names, entries, index, reason)
        added += position is None
        cancelled += position is not None
    return entries, (added, cancelled)


def model_remove(names, entries, removed):
    """Return the entries without one, and the rising list of the former positions of all that are gone."""
    kept = []
    for at, (index, reason) in enumerate(entries):
        if at != removed:
            # The former position stands in the place of the reason, so that it is kept or cancelled with the entry.
            kept, position = model_swap(names, kept, index, at)
    places = [at for index, at in kept]
    return [entries[at] for at in places], [at for at in range(len(entries)) if at not in places]
