"""What the tests of the package have in common."""

import unittest
from itertools import permutations


class Plain:
    """An object that is none of the builtin values."""


def no_strings():
    """Return values of many kinds that are not strings."""
    return [
        None, True, False, 0, 1, -1, 10 ** 30, b"a", [], ["a"], [["a"]], (), ("a",), {}, {"a": 1}, set(), {"a"},
        frozenset(["a"]), range(2), Plain(), Plain, len, AlwaysEqual(),
    ]


def no_lists():
    """Return values of many kinds that are not lists."""
    return [value for value in no_strings() if not isinstance(value, list)] + ["", "a", "a b", ("a", "b")]


def no_names():
    """Return values of many kinds that are not names."""
    return no_strings() + [
        "", "abcdefghi", "a" * 1000, "A", "aB", "Ann", "1", "a1", " ", "a b", " a", "a ", "\n", "a\n", "\na", "a\nb",
        "\t", "a_b", "_", "-", "`", "{", "a.", "\u00e9", "caf\u00e9", "\u00df", "\u0430", "\uff41", "\u00aa",
    ]


def no_integers():
    """Return values of many kinds that are not integers; True and False are none."""
    return [value for value in no_strings() if type(value) is not int] + ["", "0", "1", "a", (0,), [0], {0: 0}, b"0"]


def no_tuples():
    """Return values of many kinds that are not tuples."""
    return [value for value in no_lists() if not isinstance(value, tuple)] + [["a", "b"], [0, ""], [["a", "b"]]]


class AlwaysEqual:
    """An object that claims to be equal to everything, and that cannot be a key of a dict."""

    __hash__ = None

    def __eq__(self, other):
        return True


def forty_names():
    """Return forty different names, not in the sequence of the alphabet."""
    return [last + first for first in "dbca" for last in "jihgfedcba"]


def all_orders(names):
    """Return all orders of these names, each as a list."""
    return [list(order) for order in permutations(names)]


def pairs_in(names):
    """Return all pairs of these names, by the position of first, then of second."""
    return [(first, second) for at, first in enumerate(names) for second in names[at + 1:]]


def inverted_in(names, order):
    """Return the inverted pairs of an order, found pair by pair."""
    return [(first, second) for first, second in pairs_in(names) if order.index(second) < order.index(first)]


def all_words(names, order):
    """Return all words of an order: the lists of outward swaps that lead to it."""
    if order == names:
        return [[]]
    words = []
    for index in range(len(names) - 1):
        left, right = order[index], order[index + 1]
        if names.index(left) > names.index(right):
            before = order[:index] + [right, left] + order[index + 2:]
            words += [word + [index] for word in all_words(names, before)]
    return words


class ErrorCase(unittest.TestCase):
    """A test case that looks at the class and at the attributes of an error, and at both signs of equality."""

    def error_of(self, error_class, call, *args, **named):
        """Return the error that the call raises; it is of this very class."""
        with self.assertRaises(error_class) as context:
            call(*args, **named)
        self.assertIs(type(context.exception), error_class)
        return context.exception

    def check_error(self, expected, call, *args, **named):
        """Check that the call raises an error of the same class, with the same attributes, as the expected one."""
        error = self.error_of(type(expected), call, *args, **named)
        # By repr, because True is equal to 1.
        self.assertEqual(repr(vars(error)), repr(vars(expected)))

    def check_value(self, error_class, value, call, *args, **named):
        """Check that the call raises an error of this class with this very value."""
        self.assertIs(self.error_of(error_class, call, *args, **named).value, value)

    def check_equal(self, one, two, expected):
        """Check whether two values are equal, in both sequences and by both signs."""
        self.assertIs(one == two, expected)
        self.assertIs(two == one, expected)
        self.assertIs(one != two, not expected)
        self.assertIs(two != one, not expected)
