"""Words, the lists of the indexes of outward swaps, and the moves that change one into another of the same order."""

from ordermerge.errors import DifferentOrders, InvalidCount, InvalidMove, InvalidWord, TooManyItems
from ordermerge.integers import is_integer_from
from ordermerge.swaps import exchanged, goes_outward, is_swap_index, order_after_swaps

MOVE_ITEMS = 5
MAX_MOVE_ITEMS = 6
COMMUTE = "commute"
BRAID = "braid"


def word_fault(base, value):
    """Return the position that InvalidWord has for this value, or None if the value is a word."""
    if not isinstance(value, list):
        return 0
    order = base.names()
    for at, index in enumerate(value):
        if not is_swap_index(base, index) or not goes_outward(base, order, index):
            return at
        order = exchanged(order, index)
    return None


def check_word(base, word):
    """Raise InvalidWord if the value is not a word."""
    fault = word_fault(base, word)
    if fault is not None:
        raise InvalidWord(fault)


def is_word(base, value):
    """Tell for any value whether it is a word."""
    return word_fault(base, value) is None


def word_of(log):
    """Return the list of the indexes of the entries."""
    return log.indexes()


def order_of_word(base, word):
    """Return the order to which the swaps lead."""
    check_word(base, word)
    return order_after_swaps(base, word)


def can_commute(word, position):
    """Tell whether the two elements from this position on can be exchanged."""
    part = word[position:position + 2]
    return len(part) == 2 and abs(part[0] - part[1]) > 1


def can_braid(word, position):
    """Tell whether the three elements from this position on are i, j, i with neighbours i and j."""
    part = word[position:position + 3]
    return len(part) == 3 and part[0] == part[2] and abs(part[0] - part[1]) == 1


def is_move(word, value):
    """Tell for any value whether it is a move of the word."""
    if not isinstance(value, tuple) or len(value) != 2:
        return False
    kind, position = value
    if not isinstance(kind, str) or not is_integer_from(position, 0, len(word) - 1):
        return False
    if kind == COMMUTE:
        return can_commute(word, position)
    return kind == BRAID and can_braid(word, position)


def moved(word, move):
    """Return the word after a move that is known to be one of this word."""
    kind, position = move
    first, second = word[position], word[position + 1]
    if kind == COMMUTE:
        return word[:position] + [second, first] + word[position + 2:]
    return word[:position] + [second, first, second] + word[position + 3:]


def moved_by_all(word, moves):
    """Return the word after several moves that are known to be possible one after the other."""
    for move in moves:
        word = moved(word, move)
    return word


def apply_move(base, word, move):
    """Return the word after the move."""
    check_word(base, word)
    if not is_move(word, move):
        raise InvalidMove(move)
    return moved(word, move)


def moves_to_lead(word, position, index):
    """Return moves after which the index stands at the position; what stands before it stays.

    This needs that another word of the same order has the same beginning and then this index. If the element that
    stands there is not next to the index, that word can go on with either of the two, then with the other one;
    otherwise with i, j, i or with j, i, j. So what has to follow is brought there by the same way.
    """
    there = word[position]
    if there == index:
        return []
    moves = moves_to_lead(word, position + 1, index)
    if abs(there - index) > 1:
        return moves + [(COMMUTE, position)]
    moves += moves_to_lead(moved_by_all(word, moves), position + 2, there)
    return moves + [(BRAID, position)]


def moves_between(base, first, second, *, limit=MOVE_ITEMS):
    """Return a list of moves that change the word first to the word second."""
    check_word(base, first)
    check_word(base, second)
    if not is_integer_from(limit, 1, MAX_MOVE_ITEMS):
        raise InvalidCount(limit)
    if len(base) > limit:
        raise TooManyItems(limit)
    if order_after_swaps(base, first) != order_after_swaps(base, second):
        raise DifferentOrders("the two words lead to different orders")
    word = first
    moves = []
    for position, index in enumerate(second):
        more = moves_to_lead(word, position, index)
        word = moved_by_all(word, more)
        moves += more
    return moves


def are_moves(base, first, second, value):
    """Tell for any value whether it is a list of moves that change the word first to the word second."""
    check_word(base, first)
    check_word(base, second)
    if not isinstance(value, list):
        return False
    word = first
    for move in value:
        if not is_move(word, move):
            return False
        word = moved(word, move)
    return word == second
