"""Tests of ordermerge.swaps."""

import random
import unittest

from ordermerge.bases import Base
from ordermerge.errors import InvalidIndex, InvalidOrder
from ordermerge.swaps import distance, is_outward, swapped, swaps_between
from tests.helpers import ErrorCase, all_orders, forty_names, inverted_in, no_integers, no_lists

NAMES = ["m", "z", "a", "k"]
NO_ORDERS = [(0, []), (0, ["q"]), (1, ["m"]), (1, ["m", "m"]), (3, ["k", "z", "m"]), (4, ["k", "z", "m", "a", "k"])]


def exchanged_by_hand(order, index):
    """Return the order with the items at index and index + 1 exchanged."""
    result = list(order)
    result[index], result[index + 1] = result[index + 1], result[index]
    return result


def swaps_by_the_text(order, other):
    """Return the swaps from one order to another one, as the document says how they are found."""
    indexes = []
    while True:
        wrong = [at for at in range(len(order) - 1) if other.index(order[at]) > other.index(order[at + 1])]
        if not wrong:
            return indexes
        indexes.append(min(wrong))
        order = exchanged_by_hand(order, min(wrong))


class SwapTest(ErrorCase):
    def test_every_index_of_every_order(self):
        base = Base(NAMES)
        for order in all_orders(NAMES):
            for index in range(3):
                with self.subTest(order=order, index=index):
                    after = swapped(base, order, index)
                    self.assertEqual(after, exchanged_by_hand(order, index))
                    gained = len(inverted_in(NAMES, after)) - len(inverted_in(NAMES, order))
                    self.assertIs(is_outward(base, order, index), gained == 1)

    def test_a_second_swap_restores_the_order_and_has_the_other_direction(self):
        base = Base(NAMES)
        for order in all_orders(NAMES):
            for index in range(3):
                after = swapped(base, order, index)
                self.assertEqual(swapped(base, after, index), order)
                self.assertIs(is_outward(base, after, index), not is_outward(base, order, index))

    def test_positions_decide_and_not_letters(self):
        base = Base(NAMES)
        self.assertEqual([is_outward(base, NAMES, index) for index in range(3)], [True] * 3)
        self.assertEqual([is_outward(base, NAMES[::-1], index) for index in range(3)], [False] * 3)

    def test_one_item(self):
        base = Base(["only"])
        for call in [swapped, is_outward]:
            for index in [0, -1, 1, 5]:
                self.check_error(InvalidIndex(index), call, base, ["only"], index)

    def test_two_items(self):
        base = Base(["x", "a"])
        self.assertEqual(swapped(base, ["x", "a"], 0), ["a", "x"])
        self.assertIs(is_outward(base, ["a", "x"], 0), False)
        self.check_error(InvalidIndex(1), swapped, base, ["x", "a"], 1)

    def test_forty_items(self):
        names = forty_names()
        base = Base(names)
        for index in range(39):
            self.assertEqual(swapped(base, names, index), exchanged_by_hand(names, index))
            self.assertIs(is_outward(base, names, index), True)
            self.assertIs(is_outward(base, names[::-1], index), False)
        for call in [swapped, is_outward]:
            self.check_error(InvalidIndex(39), call, base, names, 39)
            self.check_error(InvalidIndex(40), call, base, names, 40)

    def test_invalid_index(self):
        base = Base(NAMES)
        for call in [swapped, is_outward]:
            for value in no_integers() + [-1, -2, 3, 4, 10 ** 30, -(10 ** 30)]:
                with self.subTest(call=call, value=value):
                    self.check_value(InvalidIndex, value, call, base, NAMES, value)

    def test_invalid_order_comes_first(self):
        base = Base(NAMES)
        for call in [swapped, is_outward]:
            for position, value in NO_ORDERS + [(0, value) for value in no_lists() + [tuple(NAMES)]]:
                for index in [0, 3, -1, True, None, "0"]:
                    with self.subTest(call=call, value=value, index=index):
                        self.check_error(InvalidOrder(position), call, base, value, index)

    def test_the_result_is_new(self):
        base = Base(NAMES)
        order = list(NAMES)
        after = swapped(base, order, 0)
        after.clear()
        self.assertEqual(order, NAMES)
        self.assertIs(type(swapped(base, order, 0)), list)


class BetweenTest(ErrorCase):
    def test_any_two_orders_of_four_items(self):
        base = Base(NAMES)
        for order in all_orders(NAMES):
            for other in all_orders(NAMES):
                apart = len(set(inverted_in(NAMES, order)) ^ set(inverted_in(NAMES, other)))
                swaps = swaps_between(base, order, other)
                self.assertEqual(repr(distance(base, order, other)), repr(apart))
                self.assertEqual(len(swaps), apart)
                self.assertEqual(swaps, swaps_by_the_text(order, other))
                current = order
                for index in swaps:
                    current = swapped(base, current, index)
                self.assertEqual(current, other)

    def test_equal_orders(self):
        for names in [["only"], NAMES, forty_names()]:
            base = Base(names)
            for order in [names, names[::-1], sorted(names)]:
                self.assertEqual(distance(base, order, list(order)), 0)
                self.assertEqual(swaps_between(base, order, list(order)), [])

    def test_own_and_reversed_order(self):
        base = Base(NAMES)
        self.assertEqual(distance(base, NAMES, NAMES[::-1]), 6)
        self.assertEqual(swaps_between(base, NAMES, NAMES[::-1]), [0, 1, 0, 2, 1, 0])
        self.assertEqual(swaps_between(base, NAMES[::-1], NAMES), [0, 1, 0, 2, 1, 0])

    def test_the_smallest_index_is_chosen_again_after_each_swap(self):
        base = Base(NAMES)
        self.assertEqual(swaps_between(base, NAMES, ["a", "k", "m", "z"]), [1, 0, 2, 1])
        self.assertEqual(swaps_between(base, ["k", "m", "z", "a"], NAMES), [0, 1, 2])

    def test_forty_items(self):
        names = forty_names()
        base = Base(names)
        self.assertEqual(distance(base, names, names[::-1]), 780)
        self.assertEqual(len(swaps_between(base, names, names[::-1])), 780)
        order, other = list(names), list(names)
        chance = random.Random(1)
        chance.shuffle(order)
        chance.shuffle(other)
        swaps = swaps_between(base, order, other)
        self.assertTrue(swaps == swaps_by_the_text(order, other))
        self.assertEqual(distance(base, order, other), len(swaps))

    def test_distance_has_no_direction(self):
        base = Base(NAMES)
        for order in all_orders(NAMES):
            for other in all_orders(NAMES):
                self.assertEqual(distance(base, order, other), distance(base, other, order))

    def test_invalid_orders(self):
        base = Base(NAMES)
        for call in [distance, swaps_between]:
            for position, value in NO_ORDERS + [(0, value) for value in no_lists() + [tuple(NAMES)]]:
                with self.subTest(call=call, value=value):
                    self.check_error(InvalidOrder(position), call, base, value, NAMES)
                    self.check_error(InvalidOrder(position), call, base, NAMES, value)

    def test_the_first_order_is_checked_first(self):
        base = Base(NAMES)
        for call in [distance, swaps_between]:
            self.check_error(InvalidOrder(1), call, base, ["m"], ["k", "z", "m"])
            self.check_error(InvalidOrder(3), call, base, ["k", "z", "m"], ["m"])
            self.check_error(InvalidOrder(2), call, base, ["k", "z"], None)


if __name__ == "__main__":
    unittest.main()
