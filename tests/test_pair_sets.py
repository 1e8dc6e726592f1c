"""Tests of ordermerge.pair_sets."""

import random
import unittest
from itertools import combinations, permutations, product

from ordermerge.bases import Base, inverted_pairs
from ordermerge.errors import InvalidPairs, Obstructed, UnknownItem
from ordermerge.pair_sets import is_inversion_set, obstruction, order_from_pairs, part_about
from tests.helpers import (
    ErrorCase, all_orders, forty_names, inverted_in, no_lists, no_names, no_tuples, pairs_in,
)

NAMES = ["m", "z", "a", "k"]


def subsets(rows):
    """Return all lists of some of the rows, in their sequence."""
    return [list(chosen) for count in range(len(rows) + 1) for chosen in combinations(rows, count)]


def obstructions_in(names, pairs):
    """Return all obstructions of the pairs, by the positions of first, second, third."""
    found = []
    for first, second, third in combinations(names, 3):
        listed = [pair in pairs for pair in [(first, second), (second, third), (first, third)]]
        if listed == [True, True, False]:
            found.append(("composed", first, second, third))
        if listed == [False, False, True]:
            found.append(("split", first, second, third))
    return found


def no_pairs():
    """Return values that are no pairs of the base m z a k."""
    rows = no_tuples() + [(), ("m",), ("m", "z", "a"), ("m", "m"), ("z", "m"), ("k", "m"), ["m", "z"], ("m", "q")]
    rows += [("q", "z"), (("m", "z"),), (["m", "z"], ["m", "z"]), "mz", {"m": "z"}, (0, 1), (True, "z"), ("m", None)]
    for value in no_names():
        rows += [(value, "k"), ("m", value)]
    return rows


def calls():
    """Return the four functions, each as a function of the pairs alone."""
    base = Base(NAMES)
    return [
        lambda pairs: obstruction(base, pairs),
        lambda pairs: is_inversion_set(base, pairs),
        lambda pairs: order_from_pairs(base, pairs),
        lambda pairs: part_about(base, pairs, "m", "z", "a"),
    ]


class ObstructionTest(ErrorCase):
    def test_none(self):
        base = Base(NAMES)
        for pairs in [[], [("m", "z")], [("a", "k")], [("m", "a"), ("m", "z")], pairs_in(NAMES)]:
            self.assertIsNone(obstruction(base, pairs))
            self.assertIs(is_inversion_set(base, pairs), True)

    def test_both_kinds(self):
        base = Base(NAMES)
        rows = [
            ([("m", "z"), ("z", "a")], ("composed", "m", "z", "a")),
            ([("z", "k"), ("m", "z")], ("composed", "m", "z", "k")),
            ([("a", "k"), ("z", "a")], ("composed", "z", "a", "k")),
            ([("m", "a")], ("split", "m", "z", "a")),
            ([("z", "k")], ("split", "z", "a", "k")),
            # Several: the first one by the position of first, then of second, then of third.
            ([("m", "k")], ("split", "m", "z", "k")),
            ([("z", "k"), ("m", "a")], ("split", "m", "z", "a")),
            ([("m", "z"), ("z", "a"), ("z", "k")], ("composed", "m", "z", "a")),
            ([("z", "k"), ("m", "z"), ("m", "a")], ("composed", "m", "z", "k")),
            ([("m", "k"), ("m", "z"), ("a", "k"), ("z", "a")], ("composed", "m", "z", "a")),
            ([("m", "a"), ("z", "a"), ("a", "k")], ("composed", "m", "a", "k")),
        ]
        for pairs, expected in rows:
            with self.subTest(pairs=pairs):
                self.assertEqual(repr(obstruction(base, pairs)), repr(expected))
                self.assertIs(is_inversion_set(base, pairs), False)
                self.check_error(Obstructed(expected), order_from_pairs, base, pairs)

    def test_all_sets_of_pairs_of_four_items(self):
        base = Base(NAMES)
        sets = {tuple(inverted_in(NAMES, order)): order for order in all_orders(NAMES)}
        for pairs in subsets(pairs_in(NAMES)):
            found = obstructions_in(NAMES, pairs)
            for given in [pairs, pairs[::-1]]:
                self.assertEqual(obstruction(base, given), found[0] if found else None)
                self.assertIs(is_inversion_set(base, given), tuple(pairs) in sets)
                self.assertIs(is_inversion_set(base, given), not found)
                if found:
                    self.check_error(Obstructed(found[0]), order_from_pairs, base, given)
                else:
                    self.assertEqual(order_from_pairs(base, given), sets[tuple(pairs)])

    def test_sets_of_pairs_of_six_items(self):
        names = ["f", "b", "e", "c", "a", "d"]
        chance = random.Random(4)
        for turn in range(300):
            pairs = chance.sample(pairs_in(names), chance.randrange(16))
            found = obstructions_in(names, pairs)
            self.assertEqual(obstruction(Base(names), pairs), found[0] if found else None)

    def test_few_items(self):
        self.assertIsNone(obstruction(Base(["only"]), []))
        self.assertEqual(order_from_pairs(Base(["only"]), []), ["only"])
        self.assertEqual(order_from_pairs(Base(["y", "x"]), [("y", "x")]), ["x", "y"])


class OrderTest(ErrorCase):
    def test_inverted_pairs_in_any_sequence(self):
        names = ["m", "z", "a"]
        for order in all_orders(names):
            for pairs in permutations(inverted_pairs(Base(names), order)):
                self.assertEqual(order_from_pairs(Base(names), list(pairs)), order)

    def test_all_orders_of_five_items(self):
        names = ["m", "z", "a", "k", "b"]
        for order in all_orders(names):
            self.assertEqual(order_from_pairs(Base(names), inverted_pairs(Base(names), order)[::-1]), order)

    def test_no_pairs_and_all_pairs(self):
        for names in [["only"], NAMES, forty_names()]:
            self.assertEqual(order_from_pairs(Base(names), []), names)
            self.assertEqual(order_from_pairs(Base(names), pairs_in(names)), names[::-1])

    def test_forty_items(self):
        names = forty_names()
        chance = random.Random(5)
        order = chance.sample(names, 40)
        pairs = inverted_pairs(Base(names), order)
        chance.shuffle(pairs)
        self.assertEqual(order_from_pairs(Base(names), pairs), order)
        last = ("split", names[37], names[38], names[39])
        self.assertEqual(obstruction(Base(names), [(names[37], names[39])]), last)

    def test_the_result_is_new(self):
        base = Base(NAMES)
        order_from_pairs(base, []).clear()
        self.assertEqual(order_from_pairs(base, []), NAMES)
        self.assertEqual(base.names(), NAMES)


class PartTest(ErrorCase):
    def test_the_items_in_any_sequence(self):
        pairs = [("a", "k"), ("m", "z"), ("m", "k"), ("z", "a"), ("m", "a"), ("z", "k")]
        for items in permutations(NAMES, 3):
            expected = [pair for pair in pairs if pair[0] in items and pair[1] in items]
            self.assertEqual(len(expected), 3)
            self.assertEqual(part_about(Base(NAMES), pairs, *items), expected)

    def test_equal_items(self):
        pairs = [("a", "k"), ("m", "z"), ("m", "k")]
        for items in product(NAMES, repeat=3):
            expected = [pair for pair in pairs if set(pair) <= set(items)]
            self.assertEqual(part_about(Base(NAMES), pairs, *items), expected)
        self.assertEqual(part_about(Base(NAMES), pairs, "k", "a", "a"), [("a", "k")])
        self.assertEqual(part_about(Base(NAMES), pairs, "a", "a", "a"), [])

    def test_pairs_need_not_be_an_inversion_set(self):
        self.assertEqual(part_about(Base(NAMES), [("m", "k")], "k", "z", "m"), [("m", "k")])
        self.assertEqual(part_about(Base(NAMES), [], "k", "z", "m"), [])

    def test_the_result_is_new(self):
        pairs = [("m", "z")]
        result = part_about(Base(NAMES), pairs, "m", "z", "a")
        result.clear()
        self.assertEqual(pairs, [("m", "z")])
        self.assertIsNot(part_about(Base(NAMES), pairs, "m", "z", "a"), pairs)

    def test_unknown_items(self):
        base, pairs = Base(NAMES), [("m", "z")]
        for value in ["q", "mz"] + no_names():
            with self.subTest(value=value):
                self.check_value(UnknownItem, value, part_about, base, pairs, value, "m", "z")
                self.check_value(UnknownItem, value, part_about, base, pairs, "m", value, "z")
                self.check_value(UnknownItem, value, part_about, base, pairs, "m", "z", value)
                self.check_value(UnknownItem, value, part_about, base, pairs, value, "q", None)
                self.check_value(UnknownItem, value, part_about, base, pairs, "m", value, "q")

    def test_invalid_pairs_come_before_an_unknown_item(self):
        base = Base(NAMES)
        self.check_error(InvalidPairs(0), part_about, base, None, "q", "q", "q")
        self.check_error(InvalidPairs(1), part_about, base, [("m", "z"), ("z", "m")], "q", "m", "z")
        self.check_error(InvalidPairs(1), part_about, base, [("m", "z"), ("m", "z")], "m", "z", [])


class InvalidPairsTest(ErrorCase):
    def check_position(self, position, pairs):
        for at, call in enumerate(calls()):
            with self.subTest(call=at, pairs=pairs):
                self.check_error(InvalidPairs(position), call, pairs)

    def test_no_list(self):
        for value in no_lists() + [(("m", "z"),), (("m", "z"), ("z", "a")), {("m", "z"): True}]:
            self.check_position(0, value)

    def test_no_pair(self):
        for value in no_pairs():
            self.check_position(0, [value])
            self.check_position(1, [("m", "z"), value])
            self.check_position(1, [("m", "z"), value, ("z", "a")])

    def test_repeated_pair(self):
        self.check_position(1, [("m", "z"), ("m", "z")])
        self.check_position(2, [("m", "z"), ("m", "a"), ("m", "z"), ("m", "a")])
        self.check_position(6, pairs_in(NAMES) + [("m", "k")])

    def test_the_first_fault_decides(self):
        self.check_position(1, [("m", "z"), ("z", "m"), ("m", "z")])
        self.check_position(1, [("m", "z"), ("m", "z"), ("z", "m")])
        self.check_position(0, [["m", "z"], ("m", "m")])
        # It comes before an obstruction.
        self.check_position(2, [("m", "z"), ("z", "a"), ("q", "z")])


if __name__ == "__main__":
    unittest.main()
