"""Tests of Board: how it is created, its operations against a plain model, its errors, undo, equality, copies."""

import random
import unittest

from ordermerge.bases import Base
from ordermerge.boards import MAX_USERS, Board
from ordermerge.errors import (
    InvalidCount, InvalidIndex, InvalidOrder, InvalidPosition, InvalidReason, InvalidUsers, UnknownItem, UnknownUser,
)
from ordermerge.swap_log import SwapLog
from tests.helpers import AlwaysEqual, ErrorCase, forty_names, no_integers, no_lists, no_names
from tests.log_model import replay
from tests.models import BoardModel, call_on, random_operation

NAMES = ["m", "z", "a", "k"]
USERS = ["dan", "ann", "bo"]
EIGHT = ["ann", "bo", "cy", "dan", "eve", "fay", "m", "abcdefgh"]


def state_of(board):
    """Return all that a board tells of its state."""
    logs = [(user, board.order(user), board.entries(user)) for user in board.users()]
    return repr((board.base().names(), logs, board.operations(), len(board)))


def used_board():
    """Return a board with each kind of operation, with and without reasons, also some that changed nothing."""
    board = Board(Base(NAMES), USERS)
    board.swap("ann", 0)
    board.swap("ann", 1, reason="urgent")
    board.swap("ann", 1)
    board.move("bo", "k", 0, reason="late")
    board.move("bo", "k", 0)
    board.adopt("dan", ["a", "m", "z", "k"])
    board.adopt("dan", ["a", "m", "z", "k"], reason="same")
    board.remove_entry("bo", 1)
    board.accept("ann", reason="ok")
    board.accept("ann")
    board.clear_entries("dan")
    board.clear_entries("dan")
    return board


OPERATIONS_OF_USED_BOARD = [
    ("swap", "ann", 0, ""),
    ("swap", "ann", 1, "urgent"),
    ("swap", "ann", 1, ""),
    ("move", "bo", "k", 0, "late"),
    ("move", "bo", "k", 0, ""),
    ("adopt", "dan", ("a", "m", "z", "k"), ""),
    ("adopt", "dan", ("a", "m", "z", "k"), "same"),
    ("remove", "bo", 1),
    ("accept", "ann", "ok"),
    ("accept", "ann", ""),
    ("clear", "dan"),
    ("clear", "dan"),
]


class CreationTest(ErrorCase):
    def test_a_new_board(self):
        for names in [["only"], NAMES, forty_names()]:
            for users in [["ann"], USERS, EIGHT]:
                board = Board(Base(names), users)
                self.assertEqual((board.base(), board.users(), len(board)), (Base(names), users, 0))
                self.assertEqual((board.operations(), board.merged(), board.common()), ([], names, names))
                for user in users:
                    self.assertEqual((board.order(user), board.entries(user)), (names, []))

    def test_limit(self):
        self.assertEqual(repr(MAX_USERS), "8")

    def test_users_that_are_no_list(self):
        for value in no_lists() + [("ann",)]:
            self.check_error(InvalidUsers("list", 0), Board, Base(NAMES), value)

    def test_users_that_are_no_names(self):
        for value in no_names():
            self.check_error(InvalidUsers("name", 0), Board, Base(NAMES), [value])
            self.check_error(InvalidUsers("name", 2), Board, Base(NAMES), ["ann", "bo", value, "ann", value])
            self.check_error(InvalidUsers("name", 8), Board, Base(NAMES), EIGHT + [value])

    def test_users_that_occur_twice(self):
        self.check_error(InvalidUsers("duplicate", 1), Board, Base(NAMES), ["ann", "ann", None])
        self.check_error(InvalidUsers("duplicate", 3), Board, Base(NAMES), USERS + ["dan", "bo"])
        self.check_error(InvalidUsers("duplicate", 8), Board, Base(NAMES), EIGHT + ["m"])

    def test_number_of_users(self):
        self.check_error(InvalidUsers("count", 0), Board, Base(NAMES), [])
        self.check_error(InvalidUsers("count", 0), Board, Base(NAMES), EIGHT + ["nine"])
        self.check_error(InvalidUsers("count", 0), Board, Base(NAMES), forty_names())

    def test_later_changes_of_the_given_list(self):
        users = ["ann", "bo"]
        board = Board(Base(NAMES), users)
        users[0] = "cy"
        users.append("dan")
        self.assertEqual(board.users(), ["ann", "bo"])
        self.assertEqual(board.order("ann"), NAMES)
        self.assertEqual(board, Board(Base(NAMES), ["ann", "bo"]))

    def test_later_changes_of_an_adopted_order(self):
        board, order = Board(Base(NAMES), USERS), ["k", "m", "z", "a"]
        board.adopt("ann", order)
        order.reverse()
        self.assertEqual(board.order("ann"), ["k", "m", "z", "a"])
        self.assertEqual(board.operations(), [("adopt", "ann", ("k", "m", "z", "a"), "")])


class OperationsTest(ErrorCase):
    def check_board(self, board, model):
        """Check all that a board tells of its logs and operations."""
        self.assertEqual(repr(board.operations()), repr(model.operations))
        self.assertEqual(len(board), len(model.operations))
        for user in model.users:
            self.assertEqual(repr(board.entries(user)), repr(model.entries(user)))
            self.assertEqual(board.order(user), replay(model.names, model.entries(user))[0])

    def test_many_operations_against_the_model(self):
        chance = random.Random(31)
        for turn in range(40):
            names = chance.sample(["m", "z", "a", "k", "b", "y"], chance.randrange(1, 7))
            users = chance.sample(EIGHT, chance.randrange(1, 9))
            board, model = Board(Base(names), users), BoardModel(names, users)
            for step in range(30):
                if chance.randrange(6) == 0:
                    count = chance.randrange(min(4, len(model.operations) + 1))
                    self.assertEqual(repr(board.undo(count)), repr(model.undo(count)))
                else:
                    user = chance.choice(users)
                    word, parts = random_operation(chance, names, model.entries(user))
                    result = call_on(board, word, user, parts)
                    self.assertEqual(repr(result), repr(model.perform(word, user, parts)))
                self.check_board(board, model)
            self.assertEqual(board.undo(len(board)), 0)
            self.assertEqual(board, Board(Base(names), users))

    def test_against_separate_logs(self):
        board = Board(Base(NAMES), USERS)
        logs = {user: SwapLog(Base(NAMES)) for user in USERS}
        for user, index, reason in [("ann", 0, "x"), ("bo", 2, ""), ("ann", 1, ""), ("ann", 1, ""), ("dan", 1, "why")]:
            self.assertEqual(board.swap(user, index, reason=reason), logs[user].swap(index, reason=reason))
        for user, item, index in [("bo", "k", 0), ("bo", "m", 3), ("ann", "a", 2), ("dan", "z", 0)]:
            self.assertEqual(board.move(user, item, index, reason="far"), logs[user].move(item, index, reason="far"))
        order = ["z", "k", "a", "m"]
        self.assertEqual(board.adopt("bo", order, reason="y"), logs["bo"].adopt(order, reason="y"))
        self.assertEqual(board.remove_entry("bo", 1), logs["bo"].remove_entry(1))
        self.assertEqual([board.clear_entries("dan"), logs["dan"].clear_entries()], [None, None])
        for user in USERS:
            self.assertEqual((board.order(user), board.entries(user)), (logs[user].order(), logs[user].entries()))

    def test_each_kind_of_operation(self):
        self.assertEqual(repr(used_board().operations()), repr(OPERATIONS_OF_USED_BOARD))
        self.assertEqual(len(used_board()), 12)

    def test_operations_are_new_each_time(self):
        board = used_board()
        board.operations().clear()
        self.assertEqual(board.operations(), OPERATIONS_OF_USED_BOARD)

    def test_boards_are_independent(self):
        one, two = used_board(), used_board()
        before = state_of(two)
        one.swap("ann", 0)
        one.undo(4)
        one.clear_entries("ann")
        self.assertEqual(state_of(two), before)


class ErrorsTest(ErrorCase):
    def check_unchanged(self, expected, call, *args, **named):
        """Check that a method of a used board raises an error, and that nothing has changed."""
        board = used_board()
        before = state_of(board)
        self.check_error(expected, getattr(board, call), *args, **named)
        self.assertEqual(state_of(board), before)

    def test_unknown_users_come_first(self):
        for value in no_names() + ["cy", "m", "annn", AlwaysEqual()]:
            board = used_board()
            before = state_of(board)
            for call, args in [
                (board.order, []), (board.entries, []), (board.swap, [None]), (board.swap, [0]),
                (board.move, [None, None]), (board.move, ["m", 0]), (board.adopt, [None]), (board.adopt, [NAMES]),
                (board.accept, []), (board.remove_entry, [None]), (board.remove_entry, [0]), (board.clear_entries, []),
            ]:
                self.check_value(UnknownUser, value, call, value, *args)
            for call, args in [(board.swap, [0]), (board.move, ["m", 0]), (board.adopt, [NAMES]), (board.accept, [])]:
                self.check_value(UnknownUser, value, call, value, *args, reason=None)
            self.assertEqual(state_of(board), before)

    def test_swap(self):
        for value in no_integers() + [-1, 3, 4, 10 ** 30]:
            self.check_unchanged(InvalidIndex(value), "swap", "ann", value, reason=None)
        for value in [value for value in no_names() if value != ""]:
            self.check_unchanged(InvalidReason(value), "swap", "ann", 0, reason=value)
            self.check_unchanged(InvalidReason(value), "swap", "bo", 0, reason=value)

    def test_move(self):
        for value in no_names() + ["q"]:
            self.check_unchanged(UnknownItem(value), "move", "ann", value, None, reason=None)
        for value in no_integers() + [-1, 4]:
            self.check_unchanged(InvalidIndex(value), "move", "ann", "m", value, reason=None)
        for value in [value for value in no_names() if value != ""]:
            self.check_unchanged(InvalidReason(value), "move", "ann", "m", 0, reason=value)

    def test_adopt(self):
        for value in no_lists() + [tuple(NAMES)]:
            self.check_unchanged(InvalidOrder(0), "adopt", "ann", value, reason=None)
        for position, value in [(0, []), (3, NAMES[:3]), (2, ["m", "z", "m"]), (4, NAMES + ["m"])]:
            self.check_unchanged(InvalidOrder(position), "adopt", "ann", value, reason=None)
        for value in [value for value in no_names() if value != ""]:
            self.check_unchanged(InvalidReason(value), "adopt", "ann", NAMES, reason=value)

    def test_accept(self):
        for value in [value for value in no_names() if value != ""]:
            self.check_unchanged(InvalidReason(value), "accept", "ann", reason=value)
            self.check_unchanged(InvalidReason(value), "accept", "bo", reason=value)

    def test_remove_entry(self):
        many = len(used_board().entries("bo"))
        for value in no_integers() + [-1, many, many + 1]:
            self.check_unchanged(InvalidPosition(value), "remove_entry", "bo", value)
        self.check_unchanged(InvalidPosition(0), "remove_entry", "dan", 0)

    def test_undo(self):
        for value in no_integers() + [-1, 13, 10 ** 30]:
            self.check_unchanged(InvalidCount(value), "undo", value)
        self.check_error(InvalidCount(1), Board(Base(NAMES), USERS).undo)
        self.check_error(InvalidCount(False), Board(Base(NAMES), USERS).undo, False)

    def test_parameters_that_are_passed_by_name(self):
        board = used_board()
        for call, args in [(board.swap, [0]), (board.move, ["m", 0]), (board.adopt, [NAMES]), (board.accept, [])]:
            with self.assertRaises(TypeError):
                call("ann", *args, "why")


class UndoTest(unittest.TestCase):
    def boards_before(self):
        """Return the states of the used board before its first operation and after each one."""
        board, states = used_board(), []
        for operation in range(13):
            states.append(state_of(board))
            if len(board):
                board.undo()
        return states[::-1]

    def test_any_number(self):
        states = self.boards_before()
        self.assertEqual(states[0], state_of(Board(Base(NAMES), USERS)))
        for count in range(13):
            board = used_board()
            self.assertEqual(repr(board.undo(count)), str(12 - count))
            self.assertEqual(state_of(board), states[12 - count])
            self.assertEqual(board.operations(), OPERATIONS_OF_USED_BOARD[:12 - count])
            self.assertEqual(repr(board.undo(0)), str(12 - count))
            self.assertEqual(state_of(board), states[12 - count])

    def test_one_is_the_default(self):
        board, other = used_board(), used_board()
        self.assertEqual(board.undo(), other.undo(1))
        self.assertEqual(state_of(board), state_of(other))

    def test_the_states_are_those_of_the_operations_alone(self):
        for count, state in enumerate(self.boards_before()):
            board = Board(Base(NAMES), USERS)
            for word, user, *parts in OPERATIONS_OF_USED_BOARD[:count]:
                call_on(board, word, user, [list(part) if isinstance(part, tuple) else part for part in parts])
            self.assertEqual(state_of(board), state)

    def test_an_accept_a_removed_entry_and_cleared_entries(self):
        board = Board(Base(NAMES), ["ann", "bo"])
        board.move("ann", "m", 3, reason="x")
        board.swap("bo", 2)
        for call, args in [(board.accept, ["bo"]), (board.remove_entry, ["ann", 0]), (board.clear_entries, ["ann"])]:
            before = state_of(board)
            call(*args)
            self.assertNotEqual(state_of(board), before)
            self.assertEqual(board.undo(), 2)
            self.assertEqual(state_of(board), before)

    def test_what_is_done_after_an_undo(self):
        board = Board(Base(NAMES), ["ann", "bo"])
        board.swap("ann", 0)
        board.swap("ann", 1)
        board.swap("bo", 0)
        board.undo(2)
        board.swap("ann", 2, reason="new")
        board.clear_entries("bo")
        self.assertEqual(board.entries("ann"), [(0, ""), (2, "new")])
        self.assertEqual(board.operations(), [("swap", "ann", 0, ""), ("swap", "ann", 2, "new"), ("clear", "bo")])
        self.assertEqual([board.undo(2), board.entries("ann")], [1, [(0, "")]])
        self.assertEqual([board.undo(1), board.entries("ann")], [0, []])

    def test_an_error_is_not_undone(self):
        board = Board(Base(NAMES), ["ann"])
        board.swap("ann", 0)
        with self.assertRaises(InvalidIndex):
            board.swap("ann", 9)
        self.assertEqual([board.undo(), board.order("ann")], [0, NAMES])


class EqualityTest(ErrorCase):
    def test_operations_are_not_compared(self):
        one, two = Board(Base(NAMES), USERS), Board(Base(NAMES), USERS)
        self.check_equal(one, two, True)
        one.swap("ann", 0)
        self.check_equal(one, two, False)
        two.move("ann", "z", 0)
        self.check_equal(one, two, True)
        one.clear_entries("bo")
        self.check_equal(one, two, True)
        self.assertNotEqual(len(one), len(two))

    def test_bases_users_and_logs_are_compared(self):
        board = Board(Base(NAMES), USERS)
        self.check_equal(board, Board(Base(NAMES[::-1]), USERS), False)
        self.check_equal(board, Board(Base(NAMES + ["b"]), USERS), False)
        self.check_equal(board, Board(Base(NAMES), USERS[::-1]), False)
        self.check_equal(board, Board(Base(NAMES), USERS[:2]), False)
        self.check_equal(board, Board(Base(NAMES), USERS + ["eve"]), False)
        other = Board(Base(NAMES), USERS)
        board.swap("ann", 0, reason="x")
        other.swap("ann", 0)
        self.check_equal(board, other, False)
        self.assertEqual(board.order("ann"), other.order("ann"))

    def test_logs_of_the_same_order_with_other_entries(self):
        one, two = Board(Base(NAMES), USERS), Board(Base(NAMES), USERS)
        for board, indexes in [(one, [0, 1, 0]), (two, [1, 0, 1])]:
            for index in indexes:
                board.swap("bo", index)
        self.assertEqual(one.order("bo"), two.order("bo"))
        self.check_equal(one, two, False)

    def test_the_same_log_of_another_user(self):
        one, two = Board(Base(NAMES), USERS), Board(Base(NAMES), USERS)
        one.swap("ann", 0)
        two.swap("bo", 0)
        self.check_equal(one, two, False)

    def test_other_values(self):
        board = Board(Base(NAMES), USERS)
        for value in no_names() + ["ann", Base(NAMES), SwapLog(Base(NAMES))]:
            if not isinstance(value, AlwaysEqual):
                self.check_equal(board, value, False)
        self.assertIs(board == AlwaysEqual(), False)


class CloneTest(unittest.TestCase):
    def test_a_copy_with_the_same_operations(self):
        board = used_board()
        other = board.clone()
        self.assertIsInstance(other, Board)
        self.assertEqual(state_of(other), state_of(board))
        self.assertEqual(other, board)

    def test_copies_are_independent(self):
        for first in range(2):
            boards = [used_board()]
            boards.append(boards[0].clone())
            changed, kept = boards[first], boards[1 - first]
            before = state_of(kept)
            changed.swap("ann", 0)
            changed.undo(5)
            changed.move("bo", "m", 2)
            changed.adopt("dan", NAMES[::-1])
            self.assertEqual(state_of(kept), before)
            kept.undo(12)
            self.assertEqual(state_of(kept), state_of(Board(Base(NAMES), USERS)))
            self.assertEqual(len(changed), 10)

    def test_undone_logs_are_not_shared(self):
        board = Board(Base(NAMES), ["ann"])
        board.swap("ann", 0)
        board.swap("ann", 1)
        other = board.clone()
        board.undo()
        board.swap("ann", 2)
        self.assertEqual([other.undo(), other.entries("ann")], [1, [(0, "")]])
        other.swap("ann", 1, reason="again")
        self.assertEqual(board.entries("ann"), [(0, ""), (2, "")])

    def test_a_new_board(self):
        board = Board(Base(["only"]), ["ann"])
        self.assertEqual((board.clone(), len(board.clone())), (board, 0))


if __name__ == "__main__":
    unittest.main()
