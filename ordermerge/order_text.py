"""Texts of bases and of orders: the names, separated by one space."""

from ordermerge.bases import Base, check_order, is_order
from ordermerge.errors import InvalidBase, InvalidText


def dump_base(base):
    """Return the text of a base."""
    return " ".join(base.names())


def dump_order(base, order):
    """Return the text of an order."""
    check_order(base, order)
    return " ".join(order)


def words_of(text):
    """Return the words of a text; a superfluous space makes an empty word, which is no name."""
    if not isinstance(text, str):
        raise InvalidText(0)
    return text.split(" ")


def load_base(text):
    """Return the Base with this text."""
    words = words_of(text)
    try:
        return Base(words)
    except InvalidBase:
        raise InvalidText(1) from None


def load_order(base, text):
    """Return the order of the base with this text."""
    words = words_of(text)
    if not is_order(base, words):
        raise InvalidText(1)
    return words
