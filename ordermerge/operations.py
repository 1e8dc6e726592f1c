"""Operations as tuples: a word and its parts. They are performed on a board or by a user of a replica."""


def perform_swap(place, user, index, reason):
    return place.swap(user, index, reason=reason)


def perform_move(place, user, item, index, reason):
    return place.move(user, item, index, reason=reason)


def perform_adopt(place, user, order, reason):
    return place.adopt(user, order, reason=reason)


def perform_accept(place, user, reason):
    return place.accept(user, reason=reason)


def perform_remove(place, user, position):
    return place.remove_entry(user, position)


def perform_clear(place, user):
    return place.clear_entries(user)


ACTIONS = {
    "swap": perform_swap,
    "move": perform_move,
    "adopt": perform_adopt,
    "accept": perform_accept,
    "remove": perform_remove,
    "clear": perform_clear,
}


def perform_operation(place, word, user, parts):
    """Perform the operation with this word and these parts, and return what the method of the place returns."""
    action = ACTIONS[word]
    return action(place, user, *parts)
