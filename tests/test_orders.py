"""Tests of orders and their inverted pairs in ordermerge.bases."""

import unittest
from itertools import permutations

from ordermerge.bases import Base, inverted_pairs, is_inverted, is_order
from ordermerge.errors import InvalidOrder, UnknownItem
from ordermerge.order_text import dump_order
from tests.helpers import AlwaysEqual, ErrorCase, forty_names, no_lists, no_names


def no_orders():
    """Return tuples (position, value) of values that are no orders of the base a b c d."""
    rows = [
        (0, []), (1, ["a"]), (2, ["b", "a"]), (3, ["b", "d", "c"]),
        (0, ["e"]), (0, ["e", "a", "b", "c"]), (3, ["a", "b", "c", "e"]), (4, ["a", "b", "c", "d", "e"]),
        (1, ["a", "a"]), (1, ["a", "a", "b", "c", "d"]), (3, ["a", "b", "c", "a"]), (2, ["d", "c", "c", "d"]),
        (4, ["d", "c", "b", "a", "d"]), (4, ["d", "c", "b", "a", "a", "e"]),
        # Several faults at once: the first invalid element decides, and missing items come last.
        (1, ["a", "e", "a"]), (1, ["a", "a", "e"]), (0, ["e", "e"]), (2, ["a", "b", "e"]), (2, ["a", "b", "b"]),
        (1, ["a", [], "a"]), (2, ["c", "a", "c", {}]), (0, [["a", "b", "c", "d"]]), (0, ["a b c d"]),
    ]
    rows += [(0, value) for value in no_lists() + [("a", "b", "c", "d"), "abcd", Base(["a", "b", "c", "d"])]]
    for value in no_names():
        rows += [(0, [value, "a", "b", "c", "d"]), (2, ["b", "a", value]), (4, ["d", "c", "b", "a", value])]
    return rows


class OrderTest(ErrorCase):
    def setUp(self):
        self.base = Base(["a", "b", "c", "d"])

    def test_examples(self):
        base = self.base
        values = [["b", "a", "d", "c"], ["b", "a"], ("a", "b", "c", "d")]
        self.assertEqual([is_order(base, value) for value in values], [True, False, False])

    def test_all_orders(self):
        orders = [list(order) for order in permutations(self.base.names())]
        self.assertEqual(len(orders), 24)
        for order in orders:
            with self.subTest(order=order):
                self.assertIs(is_order(self.base, order), True)

    def test_one_item(self):
        base = Base(["only"])
        self.assertIs(is_order(base, ["only"]), True)
        self.assertIs(is_order(base, []), False)
        self.assertIs(is_order(base, ["only", "only"]), False)

    def test_forty_items(self):
        base = Base(forty_names())
        self.assertIs(is_order(base, forty_names()), True)
        self.assertIs(is_order(base, sorted(forty_names())), True)
        self.assertIs(is_order(base, forty_names()[:39]), False)
        self.assertIs(is_order(base, forty_names()[:39] + ["other"]), False)
        self.check_error(InvalidOrder(39), inverted_pairs, base, forty_names()[:39])
        self.check_error(InvalidOrder(40), inverted_pairs, base, forty_names() + ["other"])

    def test_no_orders(self):
        for position, value in no_orders():
            with self.subTest(value=value):
                self.assertIs(is_order(self.base, value), False)
        self.assertIs(is_order(self.base, None), False)
        self.assertIs(is_order(self.base, [AlwaysEqual()] * 4), False)

    def test_invalid_order(self):
        calls = [
            lambda order: is_inverted(self.base, order, "a", "b"),
            lambda order: inverted_pairs(self.base, order),
            lambda order: dump_order(self.base, order),
        ]
        for at, call in enumerate(calls):
            for position, value in no_orders():
                with self.subTest(call=at, value=value):
                    self.check_error(InvalidOrder(position), call, value)


class IsInvertedTest(ErrorCase):
    def setUp(self):
        self.base = Base(["a", "b", "c", "d"])
        self.order = ["b", "d", "c", "a"]

    def test_examples(self):
        base, order = self.base, self.order
        result = [is_inverted(base, order, "a", "b"), is_inverted(base, order, "b", "a")]
        self.assertEqual(result + [is_inverted(base, order, "b", "c")], [True, True, False])
        self.check_error(InvalidOrder(3), is_inverted, base, ["b", "d", "c"], "a", "b")

    def test_both_sequences(self):
        inverted = [{"a", "b"}, {"a", "c"}, {"a", "d"}, {"c", "d"}]
        for first in "abcd":
            for second in "abcd":
                with self.subTest(first=first, second=second):
                    self.assertIs(is_inverted(self.base, self.order, first, second), {first, second} in inverted)

    def test_equal_items(self):
        for order in permutations("abcd"):
            for item in "abcd":
                self.assertIs(is_inverted(self.base, list(order), item, item), False)

    def test_own_and_reversed_order(self):
        names = ["zoo", "a", "m"]
        base = Base(names)
        for first in names:
            for second in names:
                with self.subTest(first=first, second=second):
                    self.assertIs(is_inverted(base, names, first, second), False)
                    self.assertIs(is_inverted(base, names[::-1], first, second), first != second)

    def test_unknown_items(self):
        for value in ["e", "ab"] + no_names():
            with self.subTest(value=value):
                self.check_value(UnknownItem, value, is_inverted, self.base, self.order, value, "a")
                self.check_value(UnknownItem, value, is_inverted, self.base, self.order, "a", value)
                self.check_value(UnknownItem, value, is_inverted, self.base, self.order, value, "f")
                self.check_value(UnknownItem, value, is_inverted, self.base, self.order, value, ["other"])

    def test_two_equal_values_that_are_no_items(self):
        self.check_error(UnknownItem("e"), is_inverted, self.base, self.order, "e", "e")

    def test_an_invalid_order_comes_first(self):
        self.check_error(InvalidOrder(3), is_inverted, self.base, ["b", "d", "c"], "e", "a")
        self.check_error(InvalidOrder(0), is_inverted, self.base, ("a", "b", "c", "d"), "a", [])
        self.check_error(InvalidOrder(0), is_inverted, self.base, None, None, None)
        self.check_error(InvalidOrder(3), is_inverted, self.base, ["a", "b", "c", "e"], "e", "e")


class InvertedPairsTest(ErrorCase):
    def test_example(self):
        pairs = inverted_pairs(Base(["a", "b", "c", "d"]), ["b", "d", "c", "a"])
        self.assertEqual(pairs, [("a", "b"), ("a", "c"), ("a", "d"), ("c", "d")])

    def test_own_order(self):
        for names in [["a"], ["a", "b", "c"], ["zoo", "a", "m"], forty_names()]:
            self.assertEqual(inverted_pairs(Base(names), list(names)), [])

    def test_reversed_order_by_position_of_first_then_of_second(self):
        names = ["m", "z", "a", "k"]
        pairs = [("m", "z"), ("m", "a"), ("m", "k"), ("z", "a"), ("z", "k"), ("a", "k")]
        self.assertEqual(inverted_pairs(Base(names), names[::-1]), pairs)

    def test_positions_decide_and_not_letters_or_the_order(self):
        base = Base(["m", "z", "a", "k"])
        self.assertEqual(inverted_pairs(base, ["a", "m", "k", "z"]), [("m", "a"), ("z", "a"), ("z", "k")])
        self.assertEqual(inverted_pairs(base, ["k", "z", "m", "a"]), [("m", "z"), ("m", "k"), ("z", "k"), ("a", "k")])

    def test_all_orders_of_five_items(self):
        names = ["m", "z", "a", "k", "b"]
        base = Base(names)
        for order in permutations(names):
            expected = []
            for low in range(5):
                for high in range(low + 1, 5):
                    if order.index(names[high]) < order.index(names[low]):
                        expected.append((names[low], names[high]))
            self.assertEqual(inverted_pairs(base, list(order)), expected)
            inverted = [pair for pair in permutations(names, 2) if is_inverted(base, list(order), *pair)]
            self.assertEqual(len(inverted), 2 * len(expected))

    def test_forty_items(self):
        names = forty_names()
        pairs = inverted_pairs(Base(names), names[::-1])
        expected = [(first, second) for at, first in enumerate(names) for second in names[at + 1:]]
        self.assertEqual(len(pairs), 780)
        # Not assertEqual: on a failure it would take very long to show the difference of lists of this length.
        self.assertTrue(pairs == expected)

    def test_kinds_of_the_result(self):
        base = Base(["a", "b", "c"])
        pairs = inverted_pairs(base, ["c", "b", "a"])
        self.assertIs(type(pairs), list)
        self.assertEqual({type(pair) for pair in pairs}, {tuple})
        self.assertIsNot(inverted_pairs(base, ["a", "b", "c"]), inverted_pairs(base, ["a", "b", "c"]))

    def test_changes_of_the_result_have_no_effect(self):
        base = Base(["a", "b", "c"])
        inverted_pairs(base, ["c", "b", "a"]).clear()
        self.assertEqual(inverted_pairs(base, ["c", "b", "a"]), [("a", "b"), ("a", "c"), ("b", "c")])


if __name__ == "__main__":
    unittest.main()
