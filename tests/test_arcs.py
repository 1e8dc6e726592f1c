"""Tests of ordermerge.arcs."""

import random
import unittest
from itertools import combinations, permutations, product

from ordermerge.arcs import arcs_of, is_arc, is_arc_within, is_reduced, join_of_arcs, order_of_arc, supporters
from ordermerge.bases import Base
from ordermerge.errors import InvalidArcs, InvalidOrder, InvalidOrders
from ordermerge.merging import join_orders
from tests.helpers import (
    AlwaysEqual, ErrorCase, all_orders, forty_names, inverted_in, no_lists, no_names, no_tuples, pairs_in,
)

FIVE = ["m", "z", "a", "k", "b"]
NAMES = FIVE[:4]
SIZES = [FIVE[:size] for size in range(1, 6)]
NO_ARCS = [("m",), ("m", "z"), ("m", "z", (), ()), ["m", "z", ()], ("m", "z", []), ("z", "m", ()), ("m", "q", ())]


def all_arcs(names):
    """Return all arcs: each pair with each part of the items between its two."""
    arcs = []
    for lower, upper in pairs_in(names):
        between = names[names.index(lower) + 1:names.index(upper)]
        arcs += [(lower, upper, passed) for size in range(len(between) + 1) for passed in combinations(between, size)]
    return arcs


def order_by_the_text(names, arc):
    """Return the order of an arc: the items from lower to upper, those that are passed and upper first."""
    lower, upper, passed = arc
    low, high = names.index(lower), names.index(upper)
    part = names[low:high + 1]
    first = [name for name in part if name in passed or name == upper]
    return names[:low] + first + [name for name in part if name not in first] + names[high + 1:]


def arcs_by_the_text(names, order):
    """Return the arcs of an order, read off its neighbours."""
    arcs = []
    for upper, lower in zip(order, order[1:]):
        if names.index(upper) > names.index(lower):
            between = names[names.index(lower) + 1:names.index(upper)]
            arcs.append((lower, upper, tuple([name for name in between if order.index(name) < order.index(upper)])))
    return sorted(arcs, key=lambda arc: names.index(arc[0]))


def is_part(names, order, other):
    return set(inverted_in(names, order)) <= set(inverted_in(names, other))


class IsArcTest(unittest.TestCase):
    def check_no_arc(self, base, value):
        with self.subTest(value=value):
            self.assertIs(is_arc(base, value), False)

    def test_all_triples_of_four_items(self):
        arcs = all_arcs(NAMES)
        self.assertEqual(len(arcs), 11)
        tuples = [passed for size in range(4) for passed in product(NAMES, repeat=size)]
        for lower, upper in product(NAMES, repeat=2):
            for passed in tuples:
                self.assertIs(is_arc(Base(NAMES), (lower, upper, passed)), (lower, upper, passed) in arcs)

    def test_arcs_of_five_items(self):
        self.assertEqual(len(all_arcs(FIVE)), 26)
        for arc in all_arcs(FIVE):
            self.assertIs(is_arc(Base(FIVE), arc), True)

    def test_wrong_sequence_and_wrong_places_of_passed_items(self):
        wrong = [("a", "z"), ("z", "z"), ("z", "a", "k", "b"), ("m",), ("b",), ("m", "z"), ("a", "b"), ("z", "q")]
        for passed in wrong:
            self.check_no_arc(Base(FIVE), ("m", "b", passed))
        for passed in [("m",), ("b",), ("z",), ("k",), ("a", "a")]:
            self.check_no_arc(Base(FIVE), ("z", "k", passed))
        self.assertIs(is_arc(Base(FIVE), ("z", "k", ("a",))), True)

    def test_any_value(self):
        base = Base(NAMES)
        for value in no_tuples() + NO_ARCS + [(), (("m", "a"), ("z",)), ("m", "a", "z"), ("m", "m", ())]:
            self.check_no_arc(base, value)
        for value in no_names() + ["q", AlwaysEqual()]:
            self.check_no_arc(base, (value, "a", ()))
            self.check_no_arc(base, ("m", value, ()))
            self.check_no_arc(base, (value, value, ()))
            self.check_no_arc(base, ("m", "k", (value,)))
            self.check_no_arc(base, ("m", "k", ("z", value)))
        for value in no_tuples() + ["z", ["z"], {"z": True}, {"z"}]:
            self.check_no_arc(base, ("m", "a", value))
        self.check_no_arc(Base(["only"]), ("only", "only", ()))


class ArcsOfOrdersTest(ErrorCase):
    def check_described(self, names, order):
        """Check the arcs of an order, and that none of them can be left out."""
        base, arcs = Base(names), arcs_of(Base(names), order)
        self.assertEqual(arcs, arcs_by_the_text(names, order))
        self.assertEqual(join_of_arcs(base, arcs), order)
        self.assertEqual(join_orders(base, [order_of_arc(base, arc) for arc in arcs]), order)
        for at in range(len(arcs)):
            self.assertNotEqual(join_of_arcs(base, arcs[:at] + arcs[at + 1:]), order)
        self.assertIs(is_reduced(base, arcs), True)

    def test_all_orders_of_up_to_five_items(self):
        for names in SIZES:
            for order in all_orders(names):
                self.check_described(names, order)

    def test_forty_items(self):
        names = forty_names()
        chance = random.Random(21)
        orders = [names[::-1], sorted(names), chance.sample(names, 40), names[20:] + names[:20]]
        for order in orders:
            self.check_described(names, order)
        self.assertEqual(arcs_of(Base(names), orders[3]), [(names[0], names[39], tuple(names[20:39]))])

    def test_the_order_of_the_base_has_none(self):
        for names in SIZES + [forty_names()]:
            self.assertEqual(arcs_of(Base(names), names), [])
            self.assertEqual(join_of_arcs(Base(names), []), names)
            self.assertIs(is_reduced(Base(names), []), True)

    def test_the_base_reversed_has_all_neighbours(self):
        arcs = [("m", "z", ()), ("z", "a", ()), ("a", "k", ())]
        self.assertEqual(arcs_of(Base(NAMES), NAMES[::-1]), arcs)

    def test_each_arc(self):
        for names in SIZES:
            base = Base(names)
            for arc in all_arcs(names):
                order = order_of_arc(base, arc)
                self.assertEqual(order, order_by_the_text(names, arc))
                self.assertEqual(arcs_of(base, order), [arc])
                self.assertEqual(join_of_arcs(base, [arc, arc]), order)

    def test_the_join_of_any_two_arcs(self):
        base = Base(NAMES)
        for arcs in product(all_arcs(NAMES), repeat=2):
            expected = join_orders(base, [order_by_the_text(NAMES, arc) for arc in arcs])
            self.assertEqual(join_of_arcs(base, list(arcs)), expected)

    def test_many_arcs(self):
        arcs = all_arcs(NAMES)
        self.assertEqual(join_of_arcs(Base(NAMES), arcs * 72), NAMES[::-1])

    def test_invalid_orders(self):
        base = Base(NAMES)
        for value in no_lists() + [tuple(NAMES)]:
            self.check_error(InvalidOrder(0), arcs_of, base, value)
        for position, value in [(0, []), (3, NAMES[:3]), (2, ["m", "z", "m"]), (4, NAMES + ["m"]), (1, ["m", None])]:
            self.check_error(InvalidOrder(position), arcs_of, base, value)

    def test_invalid_arcs(self):
        base = Base(NAMES)
        for value in no_tuples() + NO_ARCS:
            self.check_error(InvalidArcs(0), order_of_arc, base, value)
            self.check_error(InvalidArcs(0), join_of_arcs, base, [value])
            self.check_error(InvalidArcs(2), join_of_arcs, base, [("m", "z", ()), ("m", "a", ("z",)), value, None])
        for value in no_lists() + [(("m", "z", ()),), ("m", "z", ())]:
            self.check_error(InvalidArcs(0), join_of_arcs, base, value)


class IsReducedTest(unittest.TestCase):
    def test_all_short_lists_of_arcs_of_four_items(self):
        base = Base(NAMES)
        right = [sorted(arcs_by_the_text(NAMES, order)) for order in all_orders(NAMES)]
        for size in range(4):
            for arcs in product(all_arcs(NAMES), repeat=size):
                self.assertIs(is_reduced(base, list(arcs)), sorted(arcs) in right)

    def test_arcs_of_orders_of_five_items(self):
        base, chance = Base(FIVE), random.Random(22)
        orders = all_orders(FIVE)
        right = [sorted(arcs_by_the_text(FIVE, order)) for order in orders]
        for order in orders:
            arcs, others = arcs_of(base, order), arcs_of(base, chance.choice(orders))
            for turned in permutations(arcs):
                self.assertIs(is_reduced(base, list(turned)), True)
            changed = [arcs + [arc] for arc in arcs] + [arcs + others, others + arcs]
            changed += [arcs[:at] + arcs[at + 1:] for at in range(len(arcs))]
            changed += [arcs[:at] + [chance.choice(all_arcs(FIVE))] + arcs[at + 1:] for at in range(len(arcs))]
            for value in changed:
                self.assertIs(is_reduced(base, value), sorted(value) in right)
            for arc in arcs:
                self.assertIs(is_reduced(base, arcs + [arc]), False)

    def test_any_value(self):
        base = Base(NAMES)
        for value in no_lists() + [(), (("m", "z", ()),), ("m", "z", ())]:
            self.assertIs(is_reduced(base, value), False)
        for value in no_tuples() + NO_ARCS + [AlwaysEqual()]:
            self.assertIs(is_reduced(base, [value]), False)
            self.assertIs(is_reduced(base, [("m", "z", ()), value]), False)
            self.assertIs(is_reduced(base, [value, ("m", "z", ())]), False)


class SupportersTest(ErrorCase):
    def test_within_for_all_arcs_and_orders_of_four_items(self):
        base = Base(NAMES)
        for arc in all_arcs(NAMES):
            for order in all_orders(NAMES):
                expected = is_part(NAMES, order_by_the_text(NAMES, arc), order)
                self.assertIs(is_arc_within(base, arc, order), expected)

    def check_supporters(self, names, orders):
        """Check the supporters of all arcs of the join against the document's words."""
        base = Base(names)
        expected = []
        for arc in arcs_by_the_text(names, join_orders(base, orders)):
            order = order_by_the_text(names, arc)
            indexes = [at for at, other in enumerate(orders) if is_part(names, order, other)]
            self.assertTrue(indexes)
            expected.append((arc, indexes))
        self.assertEqual(repr(supporters(base, orders)), repr(expected))

    def test_any_two_orders_of_up_to_four_items(self):
        for names in SIZES[:4]:
            for orders in product(all_orders(names), repeat=2):
                self.check_supporters(names, list(orders))

    def test_several_orders(self):
        chance = random.Random(23)
        for turn in range(150):
            names = chance.choice(SIZES)
            self.check_supporters(names, [chance.sample(names, len(names)) for at in range(chance.randrange(6))])

    def test_no_orders_and_equal_orders(self):
        for names in SIZES:
            base = Base(names)
            self.assertEqual(supporters(base, []), [])
            for order in all_orders(names):
                for many in [1, 2, 3]:
                    expected = [(arc, list(range(many))) for arc in arcs_of(base, order)]
                    self.assertEqual(supporters(base, [order] * many), expected)
                self.assertEqual(supporters(base, [names, order]), [(arc, [1]) for arc in arcs_of(base, order)])

    def test_forty_items(self):
        names, chance = forty_names(), random.Random(24)
        orders = [names[::-1], names] + [chance.sample(names, 40) for at in range(2)]
        self.check_supporters(names, orders)
        self.check_supporters(names, [names[:at] + [names[at + 1], names[at]] + names[at + 2:] for at in range(8)])

    def test_invalid_arcs_come_before_invalid_orders(self):
        base = Base(NAMES)
        for value in no_tuples() + NO_ARCS:
            self.check_error(InvalidArcs(0), is_arc_within, base, value, NAMES)
            self.check_error(InvalidArcs(0), is_arc_within, base, value, None)
        for value in no_lists() + [tuple(NAMES)]:
            self.check_error(InvalidOrder(0), is_arc_within, base, ("m", "z", ()), value)
        for position, value in [(0, []), (3, NAMES[:3]), (2, ["m", "z", "m"]), (4, NAMES + ["m"])]:
            self.check_error(InvalidOrder(position), is_arc_within, base, ("m", "z", ()), value)

    def test_invalid_orders_with_their_position(self):
        base = Base(NAMES)
        for value in no_lists() + [tuple([NAMES])]:
            self.check_error(InvalidOrders(0), supporters, base, value)
        for value in no_lists() + [[], NAMES[:3], tuple(NAMES), NAMES + ["m"]]:
            self.check_error(InvalidOrders(0), supporters, base, [value])
            self.check_error(InvalidOrders(2), supporters, base, [NAMES, NAMES[::-1], value, None])

    def test_results_are_new(self):
        base = Base(NAMES)
        expected = [(("m", "z", ()), [0])]
        result = supporters(base, [["z", "m", "a", "k"]])
        result[0][1].append(7)
        result.append(None)
        self.assertEqual(supporters(base, [["z", "m", "a", "k"]]), expected)


if __name__ == "__main__":
    unittest.main()
