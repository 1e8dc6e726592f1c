"""Tests of ordermerge.explain."""

import random
import unittest
from itertools import permutations, product

from ordermerge.bases import Base, is_inverted
from ordermerge.errors import InvalidOrders, SameItem, UnknownItem
from ordermerge.explain import explain_inverted, explain_upright, is_chain, is_meet_chain
from ordermerge.merging import join_orders, meet_orders
from tests.helpers import AlwaysEqual, ErrorCase, all_orders, forty_names, no_integers, no_lists, no_names, no_tuples

NAMES = ["m", "z", "a", "k"]
# The first one inverts (m, z) and (m, a), the second one (a, k).
ORDERS = [["z", "a", "m", "k"], ["m", "z", "k", "a"]]


def all_chains(names, orders, first, second, inverted):
    """Return all chains or meet chains from one item up to another one, as the document describes them."""
    if first == second:
        return [[]]
    chains = []
    for lower in names[names.index(first):names.index(second)]:
        for index, order in enumerate(orders):
            if (order.index(second) < order.index(lower)) == inverted:
                before = all_chains(names, orders, first, lower, inverted)
                chains += [chain + [(lower, second, index)] for chain in before]
    return chains


def calls(base):
    """Return the four functions, each as a function of the orders and the two items."""
    return [
        lambda orders, first, second: explain_inverted(base, orders, first, second),
        lambda orders, first, second: explain_upright(base, orders, first, second),
        lambda orders, first, second: is_chain(base, orders, first, second, []),
        lambda orders, first, second: is_meet_chain(base, orders, first, second, None),
    ]


class ExplainTest(ErrorCase):
    def check_explained(self, names, orders):
        """Check the chains and the meet chains for all pairs against all that there are."""
        base = Base(names)
        joined, met = join_orders(base, orders), meet_orders(base, orders)
        for first, second in permutations(names, 2):
            lower, upper = sorted([first, second], key=names.index)
            rows = [(explain_inverted, is_chain, True), (explain_upright, is_meet_chain, False)]
            for explain, check, inverted in rows:
                chains = all_chains(names, orders, lower, upper, inverted)
                found = explain(base, orders, first, second)
                if chains:
                    self.assertIn(repr(found), [repr(chain) for chain in chains])
                    self.assertEqual(len(found), min([len(chain) for chain in chains]))
                else:
                    self.assertIsNone(found)
                for chain in chains:
                    self.assertIs(check(base, orders, first, second, chain), True)
                self.assertIs(check(base, orders, first, second, found), bool(chains))
                merged = joined if inverted else met
                self.assertIs(is_inverted(base, merged, first, second) == inverted, bool(chains))
                self.assertEqual(explain(base, orders, first, second), found)

    def test_any_two_orders_of_up_to_four_items(self):
        for names in [["m", "z"], ["m", "z", "a"]]:
            for orders in product(all_orders(names), repeat=2):
                self.check_explained(names, list(orders))
        chance = random.Random(13)
        for orders in chance.sample(list(product(all_orders(NAMES), repeat=2)), 150):
            self.check_explained(NAMES, list(orders))

    def test_several_orders_of_five_items(self):
        names = ["m", "z", "a", "k", "b"]
        chance = random.Random(14)
        for turn in range(30):
            self.check_explained(names, [chance.sample(names, 5) for at in range(chance.randrange(4))])

    def test_no_orders(self):
        for first, second in permutations(NAMES, 2):
            self.assertIsNone(explain_inverted(Base(NAMES), [], first, second))
            self.assertIsNone(explain_upright(Base(NAMES), [], first, second))
            self.assertIs(is_chain(Base(NAMES), [], first, second, [("m", "z", 0)]), False)
            self.assertIs(is_meet_chain(Base(NAMES), [], first, second, [("m", "z", 0)]), False)

    def test_both_sequences(self):
        base = Base(NAMES)
        for first, second in permutations(NAMES, 2):
            for explain in [explain_inverted, explain_upright]:
                self.assertEqual(explain(base, ORDERS, first, second), explain(base, ORDERS, second, first))
        self.assertEqual(explain_inverted(base, ORDERS, "k", "m"), [("m", "a", 0), ("a", "k", 1)])
        self.assertEqual(explain_upright(base, [order[::-1] for order in ORDERS], "k", "m"),
                         [("m", "a", 0), ("a", "k", 1)])

    def test_forty_items(self):
        names = forty_names()
        base = Base(names)
        orders = [names[:at] + [names[at + 1], names[at]] + names[at + 2:] for at in range(39)]
        chain = [(names[at], names[at + 1], at) for at in range(39)]
        self.assertEqual(explain_inverted(base, orders, names[39], names[0]), chain)
        self.assertEqual(explain_inverted(base, orders, names[3], names[6]), chain[3:6])
        self.assertEqual(explain_upright(base, [order[::-1] for order in orders], names[0], names[39]), chain)
        chosen = orders + [names[::-1]]
        self.assertEqual(explain_inverted(base, chosen, names[0], names[39]), [(names[0], names[39], 39)])
        self.assertIsNone(explain_inverted(base, orders[:20] + orders[21:], names[0], names[39]))
        self.assertIs(is_chain(base, orders, names[0], names[39], chain), True)

    def test_the_result_is_new(self):
        base = Base(NAMES)
        for explain, orders in [(explain_inverted, ORDERS), (explain_upright, [order[::-1] for order in ORDERS])]:
            explain(base, orders, "m", "k").clear()
            self.assertEqual(explain(base, orders, "m", "k"), [("m", "a", 0), ("a", "k", 1)])


class IsChainTest(ErrorCase):
    def check_both(self, value, expected, first="m", second="k"):
        """Check a value as a chain for ORDERS, and as a meet chain for the same orders reversed."""
        base, turned = Base(NAMES), [order[::-1] for order in ORDERS]
        with self.subTest(value=value):
            for one, two in [(first, second), (second, first)]:
                self.assertIs(is_chain(base, ORDERS, one, two, value), expected)
                self.assertIs(is_meet_chain(base, turned, one, two, value), expected)

    def test_right_chains(self):
        self.check_both([("m", "a", 0), ("a", "k", 1)], True)
        self.check_both([("m", "z", 0)], True, "m", "z")
        self.check_both([("a", "k", 1)], True, "a", "k")

    def test_a_longer_right_chain(self):
        base = Base(NAMES)
        orders = [["k", "m", "z", "a"], ["a", "k", "z", "m"]]
        for chain in [[("m", "k", 0)], [("m", "k", 1)], [("m", "z", 1), ("z", "k", 0)], [("m", "a", 1), ("a", "k", 0)]]:
            self.assertIs(is_chain(base, orders, "m", "k", chain), True)
        self.assertEqual(len(explain_inverted(base, orders, "m", "k")), 1)
        upright = [NAMES, ["m", "z", "k", "a"]]
        longer = [("m", "z", 1), ("z", "a", 0), ("a", "k", 0)]
        self.assertIs(is_meet_chain(base, upright, "k", "m", longer), True)
        self.assertIs(is_meet_chain(base, upright, "k", "m", longer[:2] + [("a", "k", 1)]), False)

    def test_wrong_indexes(self):
        self.check_both([("m", "a", 1), ("a", "k", 1)], False)
        self.check_both([("m", "a", 0), ("a", "k", 0)], False)
        for value in no_integers() + [-1, -2, 2, 3, 10 ** 30]:
            self.check_both([("m", "a", value), ("a", "k", 1)], False)
            self.check_both([("m", "a", 0), ("a", "k", value)], False)
        self.check_both([("m", "a", False), ("a", "k", 1)], False)
        self.check_both([("m", "a", 0), ("a", "k", True)], False)

    def test_tuples_that_do_not_meet(self):
        self.check_both([("m", "z", 0), ("a", "k", 1)], False)
        self.check_both([("a", "k", 1), ("m", "a", 0)], False)
        self.check_both([("m", "a", 0), ("m", "a", 0), ("a", "k", 1)], False)
        self.check_both([("m", "a", 0)], False)
        self.check_both([("a", "k", 1)], False)
        self.check_both([("m", "a", 0), ("a", "k", 1)], False, "m", "a")
        self.check_both([("m", "a", 0), ("a", "k", 1)], False, "a", "k")
        self.check_both([("m", "a", 0), ("a", "k", 1)], False, "z", "k")

    def test_pairs_in_the_wrong_sequence(self):
        self.check_both([("a", "m", 0), ("k", "a", 1)], False)
        self.check_both([("k", "a", 1), ("a", "m", 0)], False)
        self.check_both([("m", "a", 0), ("k", "a", 1)], False)
        self.check_both([("z", "m", 0)], False, "m", "z")
        self.check_both([("m", "m", 0), ("m", "z", 0)], False, "m", "z")
        self.check_both([("m", "m", 0)], False, "m", "z")

    def test_any_value(self):
        self.check_both([], False)
        for value in no_lists() + [(("m", "a", 0), ("a", "k", 1)), ("m", "k", 0)]:
            self.check_both(value, False)
        for value in no_tuples() + [["a", "k", 1], (), ("a", "k"), ("a", "k", 1, 1), ("a", ("k", 1)), ("a", "q", 1)]:
            self.check_both([("m", "a", 0), value], False)
            self.check_both([value, ("a", "k", 1)], False)
            self.check_both([value], False)
        for value in no_names() + [AlwaysEqual()]:
            self.check_both([("m", value, 0), (value, "k", 1)], False)
            self.check_both([(value, "a", 0), ("a", "k", 1)], False)
            self.check_both([("m", "a", 0), ("a", value, 1)], False)


class ExplainErrorsTest(ErrorCase):
    def test_invalid_orders(self):
        for call in calls(Base(NAMES)):
            for value in no_lists() + [tuple(ORDERS)]:
                self.check_error(InvalidOrders(0), call, value, "m", "z")
            for value in no_lists() + [[], ["m"], tuple(NAMES), ["m", "z", "a", "q"], NAMES + ["m"]]:
                self.check_error(InvalidOrders(0), call, [value], "m", "z")
                self.check_error(InvalidOrders(2), call, ORDERS + [value, None], "m", "z")

    def test_unknown_items(self):
        for call in calls(Base(NAMES)):
            for value in ["q", "mz"] + no_names():
                self.check_value(UnknownItem, value, call, ORDERS, value, "m")
                self.check_value(UnknownItem, value, call, ORDERS, "m", value)
                self.check_value(UnknownItem, value, call, ORDERS, value, "other")
                self.check_value(UnknownItem, value, call, [], value, value)

    def test_equal_items(self):
        for call in calls(Base(NAMES)):
            for item in NAMES:
                self.check_error(SameItem(item), call, ORDERS, item, item)
                self.check_error(SameItem(item), call, [], item, item)

    def test_the_sequence_of_the_errors(self):
        for call in calls(Base(NAMES)):
            self.check_error(InvalidOrders(1), call, [NAMES, ["m"]], "q", "q")
            self.check_error(InvalidOrders(0), call, None, "m", "m")
            self.check_error(UnknownItem("q"), call, ORDERS, "q", "r")
            self.check_error(UnknownItem("q"), call, ORDERS, "q", "q")


if __name__ == "__main__":
    unittest.main()
