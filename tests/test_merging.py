"""Tests of ordermerge.merging."""

import random
import unittest
from itertools import product

from ordermerge.bases import Base, inverted_pairs
from ordermerge.errors import InvalidOrder, InvalidOrders
from ordermerge.merging import is_within, join_orders, meet_orders
from tests.helpers import ErrorCase, all_orders, forty_names, inverted_in, no_lists, no_names

NAMES = ["m", "z", "a", "k"]
NO_ORDERS = [[], ["q"], ["m"], ["m", "m", "z", "a"], ["k", "z", "m"], ["m", "z", "a", "k", "m"], ["m", "z", "a", "q"]]


def pair_sets(names):
    """Return a list of tuples (order, set of its inverted pairs) for all orders."""
    return [(order, set(inverted_in(names, order))) for order in all_orders(names)]


def smallest_by_the_text(names, chosen):
    """Return the orders in which all chosen ones are within, and that are within every such order."""
    above = [(order, pairs) for order, pairs in pair_sets(names) if all(part <= pairs for part in chosen)]
    return [order for order, pairs in above if all(pairs <= other for name, other in above)]


def greatest_by_the_text(names, chosen):
    """Return the orders that are within all chosen ones, and in which every such order is."""
    below = [(order, pairs) for order, pairs in pair_sets(names) if all(pairs <= part for part in chosen)]
    return [order for order, pairs in below if all(other <= pairs for name, other in below)]


class WithinTest(ErrorCase):
    def test_any_two_orders_of_four_items(self):
        base = Base(NAMES)
        rows = pair_sets(NAMES)
        for (order, pairs), (other, more) in product(rows, repeat=2):
            self.assertIs(is_within(base, order, other), pairs <= more)

    def test_ends(self):
        for names in [["only"], NAMES, forty_names()]:
            base = Base(names)
            for order in [names, names[::-1], sorted(names)]:
                self.assertIs(is_within(base, names, order), True)
                self.assertIs(is_within(base, order, order), True)
                self.assertIs(is_within(base, order, names[::-1]), True)
                self.assertIs(is_within(base, order, names), order == names)

    def test_invalid_orders(self):
        base = Base(NAMES)
        for position, value in [(0, []), (1, ["m"]), (3, ["k", "z", "m"]), (2, ["k", "z", "k"])]:
            self.check_error(InvalidOrder(position), is_within, base, value, NAMES)
            self.check_error(InvalidOrder(position), is_within, base, NAMES, value)
        for value in no_lists() + [tuple(NAMES)]:
            self.check_error(InvalidOrder(0), is_within, base, value, NAMES)
            self.check_error(InvalidOrder(0), is_within, base, NAMES, value)
        self.check_error(InvalidOrder(1), is_within, base, ["m"], ["k", "z", "m"])
        self.check_error(InvalidOrder(3), is_within, base, ["k", "z", "m"], ["m"])


class JoinAndMeetTest(ErrorCase):
    def check_merged(self, names, orders):
        """Check the join and the meet of the orders against all orders of the names."""
        chosen = [set(inverted_in(names, order)) for order in orders]
        self.assertEqual([join_orders(Base(names), orders)], smallest_by_the_text(names, chosen))
        self.assertEqual([meet_orders(Base(names), orders)], greatest_by_the_text(names, chosen))

    def test_any_two_orders_of_up_to_four_items(self):
        for names in [["m"], ["m", "z"], ["m", "z", "a"], NAMES]:
            for orders in product(all_orders(names), repeat=2):
                self.check_merged(names, list(orders))

    def test_any_orders_of_three_items(self):
        names = ["m", "z", "a"]
        orders = all_orders(names)
        for chosen in range(2 ** 6):
            self.check_merged(names, [order for at, order in enumerate(orders) if chosen >> at & 1])

    def test_several_orders_of_four_and_five_items(self):
        chance = random.Random(9)
        for names in [NAMES, ["m", "z", "a", "k", "b"]]:
            for turn in range(40):
                self.check_merged(names, [chance.sample(names, len(names)) for at in range(chance.randrange(3, 6))])

    def test_a_pair_that_is_composed_of_three_orders(self):
        # No order inverts the pair (m, k).
        orders = [["z", "m", "a", "k"], ["m", "a", "z", "k"], ["m", "z", "k", "a"]]
        self.assertEqual(join_orders(Base(NAMES), orders), ["k", "a", "z", "m"])
        self.assertEqual(meet_orders(Base(NAMES), [order[::-1] for order in orders]), NAMES)

    def test_no_orders(self):
        for names in [["only"], NAMES, forty_names()]:
            self.assertEqual(join_orders(Base(names), []), names)
            self.assertEqual(meet_orders(Base(names), []), names[::-1])

    def test_one_order_and_repeated_orders(self):
        base = Base(NAMES)
        for order in all_orders(NAMES):
            for orders in [[order], [order, order], [order, list(order), order]]:
                self.assertEqual(join_orders(base, orders), order)
                self.assertEqual(meet_orders(base, orders), order)
                self.assertEqual(join_orders(base, orders + [NAMES]), order)
                self.assertEqual(meet_orders(base, [NAMES[::-1]] + orders), order)

    def test_another_sequence_repetitions_and_grouping(self):
        base = Base(NAMES)
        chance = random.Random(10)
        for turn in range(100):
            orders = [chance.sample(NAMES, 4) for at in range(4)]
            for merge in [join_orders, meet_orders]:
                result = merge(base, orders)
                self.assertEqual(merge(base, chance.sample(orders, 4)), result)
                self.assertEqual(merge(base, orders + orders[1:3]), result)
                for cut in range(5):
                    groups = [merge(base, orders[:cut]), merge(base, orders[cut:])]
                    self.assertEqual(merge(base, groups), result)
                self.assertEqual(merge(base, [result] + orders), result)

    def test_with_the_base_reversed_they_are_exchanged(self):
        chance = random.Random(11)
        for names in [NAMES, forty_names()]:
            base, turned = Base(names), Base(names[::-1])
            for turn in range(10):
                orders = [chance.sample(names, len(names)) for at in range(chance.randrange(4))]
                self.assertEqual(join_orders(turned, orders), meet_orders(base, orders))
                self.assertEqual(meet_orders(turned, orders), join_orders(base, orders))

    def test_forty_items(self):
        names = forty_names()
        base = Base(names)
        # Each order exchanges two neighbours: together they invert everything.
        orders = [names[:at] + [names[at + 1], names[at]] + names[at + 2:] for at in range(39)]
        self.assertEqual(join_orders(base, orders), names[::-1])
        self.assertEqual(meet_orders(base, orders), names)
        self.assertEqual(meet_orders(base, [order[::-1] for order in orders]), names)
        # Without the one in the middle, the two halves are reversed on their own.
        halves = names[:20][::-1] + names[20:][::-1]
        self.assertEqual(join_orders(base, orders[:19] + orders[20:]), halves)

    def test_bounds_of_forty_items(self):
        names = forty_names()
        base = Base(names)
        chance = random.Random(12)
        one, two = names[1:20] + names[:1] + names[20:], names[:20] + names[30:] + names[20:30]
        for order in [one, two, chance.sample(names, 40)]:
            for other in [one, two]:
                joined, met = join_orders(base, [order, other]), meet_orders(base, [order, other])
                for part in [order, other]:
                    self.assertIs(is_within(base, part, joined), True)
                    self.assertIs(is_within(base, met, part), True)
        both = set(inverted_pairs(base, one)) | set(inverted_pairs(base, two))
        self.assertEqual(set(inverted_pairs(base, join_orders(base, [one, two]))), both)

    def test_the_result_is_new(self):
        base = Base(NAMES)
        orders = [["z", "m", "a", "k"]]
        for merge in [join_orders, meet_orders]:
            merge(base, orders).clear()
            merge(base, []).clear()
            self.assertEqual(orders, [["z", "m", "a", "k"]])
            self.assertEqual(merge(base, orders), ["z", "m", "a", "k"])

    def test_invalid_orders(self):
        base = Base(NAMES)
        for merge in [join_orders, meet_orders]:
            for value in no_lists() + [(NAMES,), NAMES[0], {"m": NAMES}]:
                self.check_error(InvalidOrders(0), merge, base, value)
            for value in NO_ORDERS + no_lists() + no_names() + [tuple(NAMES)]:
                with self.subTest(merge=merge, value=value):
                    self.check_error(InvalidOrders(0), merge, base, [value])
                    self.check_error(InvalidOrders(1), merge, base, [NAMES, value])
                    self.check_error(InvalidOrders(2), merge, base, [NAMES, NAMES[::-1], value, None, NAMES])
            self.check_error(InvalidOrders(0), merge, base, NAMES)


if __name__ == "__main__":
    unittest.main()
