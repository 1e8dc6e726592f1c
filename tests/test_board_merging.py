"""Tests of what a board tells of all users together: merged, common, needed users, chains, supporters, accepting."""

import random
import unittest
from itertools import combinations, permutations

from ordermerge.arcs import arcs_of, supporters
from ordermerge.bases import Base, is_inverted
from ordermerge.boards import Board
from ordermerge.errors import SameItem, UnknownItem
from ordermerge.explain import explain_inverted, is_chain
from ordermerge.merging import join_orders, meet_orders
from tests.helpers import ErrorCase, forty_names, no_names
from tests.models import model_join, model_meet, model_path

NAMES = ["m", "z", "a", "k"]
EIGHT = ["ann", "bo", "cy", "dan", "eve", "fay", "m", "abcdefgh"]


def board_with(names, orders):
    """Return a board with one user for each order, with this order."""
    board = Board(Base(names), EIGHT[:len(orders)])
    for user, order in zip(EIGHT, orders):
        board.adopt(user, order)
    return board


def near(chance, names):
    """Return an order that differs by a few swaps from that of the base."""
    order = list(names)
    for turn in range(chance.randrange(3)):
        at = chance.randrange(len(names) - 1)
        order[at], order[at + 1] = order[at + 1], order[at]
    return order


def some_orders():
    """Return tuples (names, orders): one to eight orders of two to five items, some near to the base."""
    chance = random.Random(41)
    rows = []
    for turn in range(120):
        names = chance.sample(["m", "z", "a", "k", "b"], chance.randrange(2, 6))
        orders = [
            chance.sample(names, len(names)) if chance.randrange(4) == 0 else near(chance, names)
            for at in range(chance.randrange(1, 9))
        ]
        rows.append((names, orders))
    return rows


class MergedTest(ErrorCase):
    def test_join_and_meet_of_all_users(self):
        for names, orders in some_orders():
            board = board_with(names, orders)
            self.assertEqual(board.merged(), model_join(names, orders))
            self.assertEqual(board.common(), model_meet(names, orders))
            self.assertEqual(board.merged(), join_orders(Base(names), orders))
            self.assertEqual(board.common(), meet_orders(Base(names), orders))

    def test_a_pair_that_no_user_inverted(self):
        board = board_with(NAMES, [["z", "m", "a", "k"], ["m", "a", "z", "k"], ["m", "z", "k", "a"]])
        self.assertEqual(board.merged(), ["k", "a", "z", "m"])
        self.assertEqual(board.explain("k", "m"), [("m", "z", "ann"), ("z", "a", "bo"), ("a", "k", "cy")])
        self.assertEqual(board.needed_users(), ["ann", "bo", "cy"])

    def test_results_are_new(self):
        board = board_with(NAMES, [["z", "m", "a", "k"], ["m", "z", "k", "a"]])
        calls = [
            board.merged, board.common, board.needed_users, board.supporters, board.users, board.operations,
            lambda: board.order("ann"), lambda: board.entries("ann"), lambda: board.explain("m", "z"),
        ]
        for call in calls:
            before = repr(call())
            result = call()
            if isinstance(result[0], tuple) and isinstance(result[0][-1], list):
                result[0][-1].clear()
            result.clear()
            self.assertEqual(repr(call()), before)


class NeededTest(unittest.TestCase):
    def test_without_each_user(self):
        for names, orders in some_orders():
            expected = []
            for at in range(len(orders)):
                if model_join(names, orders[:at] + orders[at + 1:]) != model_join(names, orders):
                    expected.append(EIGHT[at])
            self.assertEqual(board_with(names, orders).needed_users(), expected)

    def test_a_single_user(self):
        self.assertEqual(board_with(NAMES, [NAMES]).needed_users(), [])
        for at in range(3):
            board = Board(Base(NAMES), ["ann"])
            board.swap("ann", at)
            self.assertEqual(board.needed_users(), ["ann"])
        self.assertEqual(Board(Base(["only"]), ["ann"]).needed_users(), [])

    def test_the_sequence_of_the_users(self):
        board = Board(Base(NAMES), ["zoe", "bo", "ann"])
        board.swap("ann", 0)
        board.swap("zoe", 2)
        self.assertEqual(board.needed_users(), ["zoe", "ann"])

    def test_equal_users_do_not_need_each_other(self):
        board = board_with(NAMES, [["z", "m", "a", "k"], ["z", "m", "a", "k"]])
        self.assertEqual(board.needed_users(), [])
        board.clear_entries("ann")
        self.assertEqual(board.needed_users(), ["bo"])


class AcceptTest(unittest.TestCase):
    def test_the_swaps_to_the_merged_order(self):
        for names, orders in some_orders():
            for user, order in zip(EIGHT, orders):
                board = board_with(names, orders)
                merged, entries, common = board.merged(), board.entries(user), board.common()
                path = model_path(order, merged)
                self.assertEqual(repr(board.accept(user, reason="ok")), repr((len(path), 0)))
                self.assertEqual(board.order(user), merged)
                self.assertEqual(board.entries(user), entries + [(index, "ok") for index in path])
                self.assertEqual(board.merged(), merged)
                self.assertEqual(board.operations()[-1], ("accept", user, "ok"))
                self.assertEqual(repr(board.accept(user)), "(0, 0)")
                self.assertEqual(board.operations()[-1], ("accept", user, ""))
                self.assertEqual([board.undo(2), board.order(user), board.common()], [len(orders), order, common])

    def test_when_all_accept(self):
        for names, orders in some_orders():
            board = board_with(names, orders)
            merged = board.merged()
            for user in board.users():
                board.accept(user)
            self.assertEqual([board.merged(), board.common()], [merged, merged])

    def test_without_a_reason(self):
        board = board_with(NAMES, [NAMES, ["z", "m", "a", "k"]])
        self.assertEqual([board.accept("ann"), board.entries("ann")], [(1, 0), [(0, "")]])


class ExplainTest(ErrorCase):
    def test_users_in_the_place_of_the_indexes(self):
        for names, orders in some_orders():
            board, base = board_with(names, orders), Base(names)
            merged = board.merged()
            for first, second in permutations(names, 2):
                chain = board.explain(first, second)
                if not is_inverted(base, merged, first, second):
                    self.assertIsNone(chain)
                    continue
                indexed = [(lower, upper, EIGHT.index(user)) for lower, upper, user in chain]
                self.assertIs(is_chain(base, orders, first, second, indexed), True)
                self.assertEqual(len(chain), len(explain_inverted(base, orders, first, second)))
                self.assertEqual(board.explain(first, second), chain)

    def test_errors(self):
        board = board_with(NAMES, [["z", "m", "a", "k"], NAMES])
        for value in no_names() + ["q", "ann"]:
            self.check_value(UnknownItem, value, board.explain, value, "m")
            self.check_value(UnknownItem, value, board.explain, "m", value)
            self.check_value(UnknownItem, value, board.explain, value, value)
            self.check_value(UnknownItem, value, board.explain, value, "other")
        for item in NAMES:
            self.check_error(SameItem(item), board.explain, item, item)


class SupportersTest(unittest.TestCase):
    def test_users_in_the_place_of_the_indexes(self):
        for names, orders in some_orders():
            board = board_with(names, orders)
            expected = [
                (arc, [EIGHT[index] for index in indexes]) for arc, indexes in supporters(Base(names), orders)
            ]
            self.assertEqual(repr(board.supporters()), repr(expected))
            self.assertEqual([arc for arc, users in expected], arcs_of(Base(names), board.merged()))
            for arc, users in expected:
                self.assertTrue(users)

    def test_the_sequence_of_the_users(self):
        board = Board(Base(NAMES), ["zoe", "bo", "ann"])
        for user in ["ann", "zoe"]:
            board.swap(user, 0)
        self.assertEqual(board.supporters(), [(("m", "z", ()), ["zoe", "ann"])])
        self.assertEqual(Board(Base(NAMES), ["ann"]).supporters(), [])


class FortyItemsTest(unittest.TestCase):
    def test_eight_users(self):
        names, chance = forty_names(), random.Random(42)
        board = Board(Base(names), EIGHT)
        for at, user in enumerate(EIGHT):
            for turn in range(6):
                board.move(user, chance.choice(names), chance.randrange(40), reason="far")
        orders = [board.order(user) for user in EIGHT]
        self.assertEqual(board.merged(), model_join(names, orders))
        self.assertEqual(board.common(), model_meet(names, orders))
        merged = board.merged()
        self.assertEqual(board.accept("m")[1], 0)
        self.assertEqual(board.order("m"), merged)
        for first, second in list(combinations(names, 2))[::40]:
            chain = board.explain(second, first)
            self.assertIs(chain is not None, merged.index(second) < merged.index(first))
        self.assertEqual([arc for arc, users in board.supporters()], arcs_of(Base(names), merged))
        self.assertEqual(board.undo(49), 0)
        self.assertEqual(board.merged(), names)


if __name__ == "__main__":
    unittest.main()
