"""Tests of Group: how it is created, what it tells, and the operations of its users."""

import unittest

from ordermerge.bases import Base
from ordermerge.errors import (
    InvalidIndex, InvalidOperation, InvalidOrder, InvalidPosition, InvalidReason, InvalidUsers, NothingToUndo,
    UnknownItem, UnknownReplica, UnknownUser,
)
from ordermerge.groups import MAX_REPLICAS, Group
from ordermerge.replicas import Replica
from tests.helpers import AlwaysEqual, ErrorCase, forty_names, no_integers, no_lists, no_names, no_tuples

NAMES = ["m", "z", "a", "k"]
HOMES = [("east", ["dan", "ann"]), ("lab", []), ("west", ["bo"])]
EIGHT = ["ann", "bo", "cy", "dan", "eve", "fay", "m", "abcdefgh"]
SIX = ["east", "lab", "ann", "m", "abcdefgh", "x"]


def state_of(group):
    """Return all that a group tells of its state, without changing it."""
    rows = []
    for name in group.names():
        logs = [(user, group.order(name, user), group.entries(name, user)) for user in group.users()]
        rows.append((name, logs, group.versions(name), group.merged(name)))
    return repr((group.base().names(), [group.home(user) for user in group.users()], rows, group.is_settled()))


def used_group():
    """Return a group in which each user did something, and west knows it of ann and dan."""
    group = Group(Base(NAMES), HOMES)
    group.perform("ann", ("swap", 0, ""))
    group.perform("ann", ("swap", 1, "urgent"))
    group.perform("dan", ("move", "k", 0, "late"))
    group.deliver(group.send("east"), "west")
    group.perform("bo", ("swap", 2, ""))
    return group


class CreationTest(ErrorCase):
    def check_problem(self, problem, position, homes):
        with self.subTest(homes=homes):
            self.check_error(InvalidUsers(problem, position), Group, Base(NAMES), homes)

    def test_a_new_group(self):
        for names in [["only"], NAMES, forty_names()]:
            group = Group(Base(names), HOMES)
            self.assertEqual((group.base(), group.names()), (Base(names), ["east", "lab", "west"]))
            self.assertEqual(group.users(), ["dan", "ann", "bo"])
            self.assertEqual([group.home(user) for user in group.users()], ["east", "east", "west"])
            self.assertIs(group.is_settled(), True)
            for name in group.names():
                self.assertEqual(repr(group.versions(name)), "{'dan': 0, 'ann': 0, 'bo': 0}")
                self.assertEqual(group.merged(name), names)
                for user in group.users():
                    self.assertEqual((group.order(name, user), group.entries(name, user)), (names, []))

    def test_limits(self):
        self.assertEqual(repr(MAX_REPLICAS), "6")
        six = [(name, [user]) for name, user in zip(SIX, EIGHT)]
        self.assertEqual(Group(Base(NAMES), six).names(), SIX)
        self.assertEqual(Group(Base(NAMES), [("east", EIGHT)]).users(), EIGHT)
        self.assertEqual(Group(Base(NAMES), [("east", EIGHT[:5]), ("west", EIGHT[5:])]).users(), EIGHT)
        self.assertEqual(Group(Base(NAMES), [("east", []), ("west", ["ann"])]).users(), ["ann"])

    def test_equal_names_of_a_replica_a_user_and_an_item(self):
        group = Group(Base(NAMES), [("m", ["z", "m"]), ("z", ["a"])])
        self.assertEqual([group.names(), group.users(), group.home("m")], [["m", "z"], ["z", "m", "a"], "m"])
        self.assertEqual(group.perform("m", ("move", "m", 1, "m")), (1, 0))

    def test_no_list(self):
        for value in no_lists() + [tuple(HOMES), {"east": ["ann"]}]:
            self.check_problem("list", 0, value)

    def test_no_tuple_of_two(self):
        for value in no_tuples() + [(), ("east",), ("east", [], []), ["east", ["ann"]]]:
            self.check_problem("home", 0, [value])
            self.check_problem("home", 2, HOMES[:2] + [value, None])

    def test_no_name_of_a_replica(self):
        for value in no_names():
            self.check_problem("name", 0, [(value, ["ann"])])
            self.check_problem("name", 2, HOMES[:2] + [(value, None), None])

    def test_a_name_that_is_used_by_an_earlier_replica(self):
        self.check_problem("duplicate", 1, [("east", []), ("east", None)])
        self.check_problem("duplicate", 3, HOMES + [("lab", ["cy"]), None])

    def test_users_that_are_no_list_of_names(self):
        for value in no_lists() + [("bo",)]:
            self.check_problem("users", 0, [("east", value)])
            self.check_problem("users", 2, HOMES[:2] + [("west", value), None])
        for value in no_names():
            self.check_problem("users", 1, [("east", ["ann"]), ("west", ["bo", value])])
            self.check_problem("users", 1, [("east", ["ann"]), ("west", ["ann", "bo", "bo", value])])

    def test_users_that_occur_twice(self):
        self.check_problem("user", 0, [("east", ["ann", "bo", "ann"]), None])
        self.check_problem("user", 1, [("east", ["ann"]), ("west", ["bo", "ann"]), None])
        self.check_problem("user", 3, HOMES + [("north", ["dan"]), ("north", [])])

    def test_numbers(self):
        self.check_problem("count", 0, [])
        self.check_problem("count", 0, [("east", [])])
        self.check_problem("count", 0, [("east", []), ("west", [])])
        self.check_problem("count", 0, [(name, []) for name in SIX])
        self.check_problem("count", 0, [(name, [user]) for name, user in zip(SIX + ["seven"], EIGHT)])
        self.check_problem("count", 0, [("east", EIGHT + ["nine"])])
        self.check_problem("count", 0, [("east", EIGHT), ("west", ["nine"])])
        self.check_problem("user", 6, [(name, ["u" + name[:4]]) for name in SIX] + [("seven", ["ux"])])
        self.check_problem("duplicate", 6, [(name, []) for name in SIX] + [("x", [])])

    def test_two_problems_at_once(self):
        self.check_problem("home", 0, [None, ("East", ["ann"])])
        self.check_problem("name", 0, [("East", "ann"), None])
        self.check_problem("users", 0, [("east", "ann"), ("east", [])])
        self.check_problem("user", 0, [("east", ["ann", "ann"]), ("west", [None])])
        self.check_problem("duplicate", 1, [("east", ["ann"]), ("east", ["ann"])])

    def test_later_changes_of_the_given_lists(self):
        users = ["ann"]
        homes = [("east", users), ("west", ["bo"])]
        group = Group(Base(NAMES), homes)
        before = state_of(group)
        users.append("cy")
        homes.append(("north", ["dan"]))
        self.assertEqual(state_of(group), before)
        group.perform("ann", ("swap", 0, ""))
        self.assertEqual(group.versions("east"), {"ann": 1, "bo": 0})


class TellingTest(ErrorCase):
    def test_unknown_replicas_and_users(self):
        group = used_group()
        before = state_of(group)
        for value in no_names() + ["ann", "m", "eastt", AlwaysEqual()]:
            for call, args in [
                (group.order, ["ann"]), (group.order, [None]), (group.entries, ["ann"]), (group.entries, [None]),
                (group.versions, []), (group.merged, []), (group.send, []),
            ]:
                self.check_value(UnknownReplica, value, call, value, *args)
        for value in no_names() + ["east", "m", AlwaysEqual()]:
            self.check_value(UnknownUser, value, group.home, value)
            self.check_value(UnknownUser, value, group.order, "east", value)
            self.check_value(UnknownUser, value, group.entries, "lab", value)
        self.assertEqual(state_of(group), before)

    def test_results_are_new(self):
        group = used_group()
        before = state_of(group)
        calls = [
            group.names, group.users, lambda: group.order("east", "ann"), lambda: group.entries("east", "ann"),
            lambda: group.versions("east"), lambda: group.merged("west"),
        ]
        for call in calls:
            shown = repr(call())
            call().clear()
            self.assertEqual(repr(call()), shown)
            self.assertEqual(state_of(group), before)

    def test_groups_are_independent(self):
        one, two = used_group(), used_group()
        before = state_of(two)
        one.perform("bo", ("clear",))
        one.settle()
        one.add_item("new")
        one.send("lab")
        self.assertEqual(state_of(two), before)
        self.assertEqual(two.send("lab"), 1)


class PerformTest(ErrorCase):
    def test_each_operation_at_the_home_alone(self):
        group, replica = Group(Base(NAMES), HOMES), Replica(Base(NAMES), ["dan", "ann", "bo"], ["dan", "ann"])
        order = ["k", "a", "m", "z"]
        rows = [
            (("swap", 0, ""), lambda: replica.swap("ann", 0)),
            (("swap", 1, "why"), lambda: replica.swap("ann", 1, reason="why")),
            (("swap", 1, "back"), lambda: replica.swap("ann", 1, reason="back")),
            (("move", "k", 0, "far"), lambda: replica.move("ann", "k", 0, reason="far")),
            (("adopt", order, "all"), lambda: replica.adopt("ann", order, reason="all")),
            (("accept", "ok"), lambda: replica.accept("ann", reason="ok")),
            (("remove", 1), lambda: replica.remove_entry("ann", 1)),
            (("undo",), lambda: replica.undo("ann")),
            (("clear",), lambda: replica.clear_entries("ann")),
            (("undo",), lambda: replica.undo("ann")),
            (("accept", ""), lambda: replica.accept("ann")),
        ]
        group.perform("dan", ("swap", 2, "x"))
        replica.swap("dan", 2, reason="x")
        for operation, call in rows:
            shown = repr(operation)
            self.assertEqual(repr(group.perform("ann", operation)), repr(call()))
            self.assertEqual(repr(operation), shown)
            self.assertEqual(group.versions("east"), replica.versions())
            self.assertEqual(group.merged("east"), replica.merged())
            for user in ["dan", "ann", "bo"]:
                self.assertEqual(group.order("east", user), replica.order(user))
                self.assertEqual(group.entries("east", user), replica.entries(user))
                for name in ["lab", "west"]:
                    self.assertEqual((group.order(name, user), group.entries(name, user)), (NAMES, []))
                    self.assertEqual(group.versions(name), {"dan": 0, "ann": 0, "bo": 0})

    def test_the_home_of_each_user(self):
        group = Group(Base(NAMES), HOMES)
        group.perform("bo", ("swap", 1, ""))
        self.assertEqual([group.versions(name)["bo"] for name in group.names()], [0, 0, 1])

    def test_later_changes_of_an_adopted_order(self):
        group, order = Group(Base(NAMES), HOMES), ["k", "a", "m", "z"]
        group.perform("ann", ("adopt", order, ""))
        order.reverse()
        self.assertEqual(group.order("east", "ann"), ["k", "a", "m", "z"])


class PerformErrorsTest(ErrorCase):
    def check_unchanged(self, expected, user, operation):
        """Check that an operation raises an error, and that nothing has changed."""
        group = used_group()
        before = state_of(group)
        with self.subTest(operation=operation):
            self.check_error(expected, group.perform, user, operation)
            self.assertEqual(state_of(group), before)

    def test_unknown_users_come_first(self):
        group = used_group()
        before = state_of(group)
        for value in no_names() + ["east", "cy", AlwaysEqual()]:
            for operation in [None, ("swap",), ("swap", 9, ""), ("swap", 0, ""), ("undo",)]:
                self.check_value(UnknownUser, value, group.perform, value, operation)
        self.assertEqual(state_of(group), before)

    def check_no_operation(self, value):
        group = used_group()
        before = state_of(group)
        with self.subTest(value=value):
            self.error_of(InvalidOperation, group.perform, "ann", value)
            self.assertEqual(state_of(group), before)

    def test_no_tuple(self):
        for value in no_tuples() + [["swap", 0, ""], ["clear"], "clear", "undo", ["undo"]]:
            self.check_no_operation(value)

    def test_another_word(self):
        words = no_names() + ["jump", "swaps", "Swap", "remove_entry", "clear_entries", "receive", "merged"]
        self.check_no_operation(())
        for word in words:
            for parts in [(), (0,), (0, ""), ("m", 0, ""), (0, "", "", "")]:
                self.check_no_operation((word, *parts))
        for word in ["swap", "clear"]:
            self.check_no_operation(([word], 0, ""))

    def test_another_number_of_parts(self):
        rows = [
            ("swap", 0, ""), ("move", "m", 0, ""), ("adopt", NAMES, ""), ("accept", ""), ("remove", 0), ("clear",),
            ("undo",),
        ]
        for row in rows:
            self.assertEqual(used_group().perform("ann", row), used_group().perform("ann", row))
            for size in range(len(row)):
                self.check_no_operation(row[:size])
            self.check_no_operation(row + ("",))
            self.check_no_operation(row + (0, ""))
            self.check_no_operation(("ann", *row))

    def test_errors_of_the_method(self):
        for value in no_integers() + [-1, 3]:
            self.check_unchanged(InvalidIndex(value), "ann", ("swap", value, None))
        for value in no_names() + ["q"]:
            self.check_unchanged(UnknownItem(value), "ann", ("move", value, None, None))
        for value in no_integers() + [-1, 4]:
            self.check_unchanged(InvalidIndex(value), "ann", ("move", "m", value, None))
        for value in no_lists() + [tuple(NAMES)]:
            self.check_unchanged(InvalidOrder(0), "ann", ("adopt", value, None))
        self.check_unchanged(InvalidOrder(3), "ann", ("adopt", NAMES[:3], ""))
        for value in no_integers() + [-1, 2]:
            self.check_unchanged(InvalidPosition(value), "ann", ("remove", value))
        for value in [value for value in no_names() if value != ""]:
            self.check_unchanged(InvalidReason(value), "ann", ("swap", 0, value))
            self.check_unchanged(InvalidReason(value), "ann", ("move", "m", 0, value))
            self.check_unchanged(InvalidReason(value), "ann", ("adopt", NAMES, value))
            self.check_unchanged(InvalidReason(value), "ann", ("accept", value))

    def test_nothing_to_undo(self):
        group = used_group()
        group.perform("bo", ("undo",))
        before = state_of(group)
        self.check_error(NothingToUndo("bo"), group.perform, "bo", ("undo",))
        self.assertEqual(state_of(group), before)


if __name__ == "__main__":
    unittest.main()
