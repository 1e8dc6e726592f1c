"""Tests of Replica: how it is created, the operations of local users, versions, undo, equality."""

import random
import unittest

from ordermerge.bases import Base
from ordermerge.boards import Board
from ordermerge.errors import (
    InvalidIndex, InvalidOrder, InvalidPosition, InvalidReason, InvalidUsers, NothingToUndo, NotLocal, UnknownItem,
    UnknownUser,
)
from ordermerge.replicas import Replica
from tests.helpers import AlwaysEqual, ErrorCase, forty_names, no_integers, no_lists, no_names
from tests.log_model import replay
from tests.models import ReplicaModel, call_on, model_join, model_meet, random_operation

NAMES = ["m", "z", "a", "k"]
USERS = ["dan", "ann", "bo"]
EIGHT = ["ann", "bo", "cy", "dan", "eve", "fay", "m", "abcdefgh"]


def state_of(replica):
    """Return all that a replica tells of its state."""
    logs = [(replica.order(user), replica.entries(user), replica.version(user)) for user in replica.users()]
    return repr((replica.base().names(), replica.users(), replica.local(), logs, replica.versions(), replica.message()))


def used_replica():
    """Return a replica at which two of the three users changed their logs; the third one is not local."""
    replica = Replica(Base(NAMES), USERS, ["bo", "ann"])
    replica.swap("ann", 0)
    replica.swap("ann", 1, reason="urgent")
    replica.move("bo", "k", 0, reason="late")
    replica.receive([("dan", 4, ((2, "far"),)), ("ann", 0, ()), ("bo", 0, ())])
    return replica


class CreationTest(ErrorCase):
    def test_a_new_replica(self):
        for names in [["only"], NAMES, forty_names()]:
            for users in [["ann"], USERS, EIGHT]:
                for local in [[], users[:1], users[::-1], users]:
                    replica = Replica(Base(names), users, local)
                    self.assertEqual((replica.base(), replica.users(), replica.local()), (Base(names), users, local))
                    self.assertEqual(repr(replica.versions()), repr({user: 0 for user in users}))
                    self.assertEqual((replica.merged(), replica.common()), (names, names))
                    self.assertEqual(repr(replica.message()), repr([(user, 0, ()) for user in users]))
                    for user in users:
                        self.assertEqual((replica.order(user), replica.entries(user)), (names, []))
                        self.assertEqual(repr(replica.version(user)), "0")

    def test_users(self):
        base = Base(NAMES)
        for value in no_lists() + [("ann",)]:
            self.check_error(InvalidUsers("list", 0), Replica, base, value, None)
        for value in no_names():
            self.check_error(InvalidUsers("name", 2), Replica, base, ["ann", "bo", value, "ann"], [None])
        self.check_error(InvalidUsers("duplicate", 3), Replica, base, USERS + ["dan"], [])
        self.check_error(InvalidUsers("count", 0), Replica, base, [], ["ann"])
        self.check_error(InvalidUsers("count", 0), Replica, base, EIGHT + ["nine"], [])

    def test_local_users(self):
        base = Base(NAMES)
        for value in no_lists() + [("ann",), "ann"]:
            self.check_error(InvalidUsers("local", 0), Replica, base, USERS, value)
        for value in no_names() + ["cy", "m", AlwaysEqual()]:
            self.check_error(InvalidUsers("local", 0), Replica, base, USERS, [value])
            self.check_error(InvalidUsers("local", 2), Replica, base, USERS, ["bo", "dan", value, "bo", None])
        self.check_error(InvalidUsers("local", 1), Replica, base, USERS, ["bo", "bo", "cy"])
        self.check_error(InvalidUsers("local", 3), Replica, base, USERS, ["bo", "dan", "ann", "dan"])

    def test_later_changes_of_the_given_lists(self):
        users, local = ["ann", "bo"], ["ann"]
        replica = Replica(Base(NAMES), users, local)
        users.append("cy")
        local[0] = "bo"
        self.assertEqual((replica.users(), replica.local()), (["ann", "bo"], ["ann"]))
        self.assertIsNone(replica.swap("ann", 0))
        self.check_error(NotLocal("bo"), replica.swap, "bo", 0)

    def test_results_are_new(self):
        replica = used_replica()
        before = state_of(replica)
        calls = [
            replica.users, replica.local, replica.versions, replica.message, replica.merged, replica.common,
            lambda: replica.order("ann"), lambda: replica.entries("ann"),
        ]
        for call in calls:
            shown = repr(call())
            call().clear()
            self.assertEqual(repr(call()), shown)
            self.assertEqual(state_of(replica), before)


class OperationsTest(ErrorCase):
    def check_replica(self, replica, model):
        """Check all that a replica tells against the model."""
        self.assertEqual(repr(replica.message()), repr(model.message()))
        versions = {user: version for user, (version, entries) in model.known.items()}
        self.assertEqual(repr(replica.versions()), repr(versions))
        for user in model.users:
            version, entries = model.known[user]
            self.assertEqual(repr((replica.version(user), replica.entries(user))), repr((version, entries)))
            self.assertEqual(replica.order(user), replay(model.names, entries)[0])
        self.assertEqual(replica.merged(), model_join(model.names, model.orders()))
        self.assertEqual(replica.common(), model_meet(model.names, model.orders()))

    def test_many_operations_against_the_model(self):
        chance = random.Random(51)
        for turn in range(40):
            names = chance.sample(["m", "z", "a", "k", "b"], chance.randrange(1, 6))
            users = chance.sample(EIGHT, chance.randrange(1, 9))
            local = chance.sample(users, chance.randrange(1, len(users) + 1))
            replica, model = Replica(Base(names), users, local), ReplicaModel(names, users, local)
            for step in range(30):
                user = chance.choice(local)
                if model.former[user] and chance.randrange(4) == 0:
                    self.assertIsNone(replica.undo(user))
                    model.perform("undo", user, ())
                else:
                    word, parts = random_operation(chance, names, model.known[user][1])
                    result = call_on(replica, word, user, parts)
                    self.assertEqual(repr(result), repr(model.perform(word, user, parts)))
                self.check_replica(replica, model)

    def test_versions_increase_also_where_nothing_changed(self):
        replica = Replica(Base(NAMES), USERS, USERS)
        calls = [
            lambda: replica.move("ann", "m", 0), lambda: replica.adopt("ann", NAMES), lambda: replica.accept("ann"),
            lambda: replica.clear_entries("ann"), lambda: replica.undo("ann"), lambda: replica.swap("ann", 0),
            lambda: replica.swap("ann", 0, reason="x"), lambda: replica.swap("ann", 2),
            lambda: replica.remove_entry("ann", 0),
        ]
        for count, call in enumerate(calls, start=1):
            call()
            self.assertEqual(repr(replica.versions()), repr({"dan": 0, "ann": count, "bo": 0}))
            self.assertEqual(repr(replica.version("ann")), str(count))
        self.assertEqual(replica.entries("ann"), [])

    def test_accept_takes_the_known_logs(self):
        replica = used_replica()
        merged = replica.merged()
        self.assertEqual(merged, model_join(NAMES, [replica.order(user) for user in USERS]))
        self.assertEqual(replica.accept("bo", reason="ok")[1], 0)
        self.assertEqual((replica.order("bo"), replica.entries("bo")[-1][1]), (merged, "ok"))

    def test_replicas_are_independent(self):
        one, two = used_replica(), used_replica()
        before = state_of(two)
        one.swap("ann", 2)
        one.undo("bo")
        one.receive([("dan", 9, ()), ("ann", 0, ()), ("bo", 0, ())])
        self.assertEqual(state_of(two), before)


class ErrorsTest(ErrorCase):
    def check_unchanged(self, expected, call, *args, **named):
        """Check that a method of a used replica raises an error, and that nothing has changed."""
        replica = used_replica()
        before = state_of(replica)
        self.check_error(expected, getattr(replica, call), *args, **named)
        self.assertEqual(state_of(replica), before)
        # What could be undone can still be undone, and no more.
        replica.undo("ann")
        replica.undo("ann")
        self.check_error(NothingToUndo("ann"), replica.undo, "ann")

    def calls(self, replica):
        """Return the methods for operations, each with other arguments that are invalid and valid."""
        return [
            (replica.swap, [None]), (replica.swap, [0]), (replica.move, [None, None]), (replica.move, ["m", 0]),
            (replica.adopt, [None]), (replica.adopt, [NAMES]), (replica.accept, []), (replica.remove_entry, [None]),
            (replica.remove_entry, [0]), (replica.clear_entries, []), (replica.undo, []),
        ]

    def calls_with_a_reason(self, replica):
        """Return the methods that take a reason, each with other arguments that are valid."""
        return [(replica.swap, [0]), (replica.move, ["m", 0]), (replica.adopt, [NAMES]), (replica.accept, [])]

    def test_unknown_users_come_first(self):
        replica = used_replica()
        before = state_of(replica)
        for value in no_names() + ["cy", "m", AlwaysEqual()]:
            for call, args in self.calls(replica) + [(replica.order, []), (replica.entries, []), (replica.version, [])]:
                self.check_value(UnknownUser, value, call, value, *args)
            for call, args in self.calls_with_a_reason(replica):
                self.check_value(UnknownUser, value, call, value, *args, reason=None)
        self.assertEqual(state_of(replica), before)

    def test_users_who_are_not_local(self):
        replica = used_replica()
        before = state_of(replica)
        for call, args in self.calls(replica):
            self.check_error(NotLocal("dan"), call, "dan", *args)
        for call, args in self.calls_with_a_reason(replica):
            self.check_error(NotLocal("dan"), call, "dan", *args, reason=None)
        self.assertEqual(state_of(replica), before)
        nobody = Replica(Base(NAMES), USERS, [])
        for user in USERS:
            for call, args in self.calls(nobody):
                self.check_error(NotLocal(user), call, user, *args)

    def test_errors_of_the_log(self):
        for value in no_integers() + [-1, 3]:
            self.check_unchanged(InvalidIndex(value), "swap", "ann", value, reason=None)
        for value in no_names() + ["q"]:
            self.check_unchanged(UnknownItem(value), "move", "ann", value, None, reason=None)
        for value in no_integers() + [-1, 4]:
            self.check_unchanged(InvalidIndex(value), "move", "ann", "m", value, reason=None)
        for position, value in [(0, None), (0, tuple(NAMES)), (0, []), (3, NAMES[:3]), (2, ["m", "z", "m"])]:
            self.check_unchanged(InvalidOrder(position), "adopt", "ann", value, reason=None)
        for value in no_integers() + [-1, 2]:
            self.check_unchanged(InvalidPosition(value), "remove_entry", "ann", value)
        for value in [value for value in no_names() if value != ""]:
            self.check_unchanged(InvalidReason(value), "swap", "ann", 0, reason=value)
            self.check_unchanged(InvalidReason(value), "move", "ann", "m", 0, reason=value)
            self.check_unchanged(InvalidReason(value), "adopt", "ann", NAMES, reason=value)
            self.check_unchanged(InvalidReason(value), "accept", "ann", reason=value)

    def test_parameters_that_are_passed_by_name(self):
        replica = used_replica()
        for call, args in self.calls_with_a_reason(replica):
            with self.assertRaises(TypeError):
                call("ann", *args, "why")


class UndoTest(ErrorCase):
    def test_several_operations_one_after_the_other(self):
        replica = Replica(Base(NAMES), USERS, ["ann"])
        replica.swap("ann", 0, reason="x")
        replica.swap("ann", 1)
        replica.move("ann", "z", 0)
        replica.clear_entries("ann")
        states = []
        for turn in range(4):
            self.assertIsNone(replica.undo("ann"))
            states.append((replica.entries("ann"), replica.version("ann")))
        self.assertEqual(states, [([(0, "x"), (1, "")], 5), ([(0, "x"), (1, "")], 6), ([(0, "x")], 7), ([], 8)])
        self.check_error(NothingToUndo("ann"), replica.undo, "ann")
        self.assertEqual(replica.version("ann"), 8)

    def test_operations_after_an_undo(self):
        replica = Replica(Base(NAMES), USERS, ["ann"])
        replica.swap("ann", 0)
        replica.swap("ann", 1)
        replica.undo("ann")
        replica.swap("ann", 2, reason="new")
        self.assertEqual((replica.entries("ann"), replica.version("ann")), ([(0, ""), (2, "new")], 4))
        replica.undo("ann")
        self.assertEqual((replica.entries("ann"), replica.version("ann")), ([(0, "")], 5))
        replica.undo("ann")
        self.assertEqual((replica.entries("ann"), replica.version("ann")), ([], 6))
        self.check_error(NothingToUndo("ann"), replica.undo, "ann")

    def test_each_user_undoes_its_own_operations(self):
        replica = Replica(Base(NAMES), USERS, ["bo", "ann"])
        replica.swap("ann", 0)
        replica.swap("bo", 1)
        replica.undo("ann")
        self.assertEqual((replica.order("ann"), replica.order("bo")), (NAMES, ["m", "a", "z", "k"]))
        self.check_error(NothingToUndo("ann"), replica.undo, "ann")
        replica.undo("bo")
        self.assertEqual(replica.versions(), {"dan": 0, "ann": 2, "bo": 2})

    def test_an_accept_and_a_removed_entry(self):
        replica = used_replica()
        before = replica.entries("ann")
        replica.accept("ann")
        replica.remove_entry("ann", 0)
        self.assertNotEqual(replica.entries("ann"), before)
        replica.undo("ann")
        replica.undo("ann")
        self.assertEqual((replica.entries("ann"), replica.version("ann")), (before, 6))

    def test_received_logs_cannot_be_undone(self):
        replica = used_replica()
        self.check_error(NotLocal("dan"), replica.undo, "dan")
        replica.undo("bo")
        replica.receive([("dan", 5, ()), ("ann", 0, ()), ("bo", 0, ())])
        self.check_error(NothingToUndo("bo"), replica.undo, "bo")


class EqualityTest(ErrorCase):
    def test_what_is_compared(self):
        replica = Replica(Base(NAMES), USERS, ["bo", "ann"])
        self.check_equal(replica, Replica(Base(NAMES), USERS, ["bo", "ann"]), True)
        self.check_equal(replica, Replica(Base(NAMES[::-1]), USERS, ["bo", "ann"]), False)
        self.check_equal(replica, Replica(Base(NAMES), USERS[::-1], ["bo", "ann"]), False)
        self.check_equal(replica, Replica(Base(NAMES), USERS, ["ann", "bo"]), False)
        self.check_equal(replica, Replica(Base(NAMES), USERS, ["bo"]), False)
        self.check_equal(used_replica(), used_replica(), True)

    def test_logs_and_versions(self):
        one, two = Replica(Base(NAMES), USERS, USERS), Replica(Base(NAMES), USERS, USERS)
        one.swap("ann", 0)
        self.check_equal(one, two, False)
        two.swap("ann", 0, reason="x")
        self.check_equal(one, two, False)
        two.undo("ann")
        two.swap("ann", 0)
        self.assertEqual(one.entries("ann"), two.entries("ann"))
        self.check_equal(one, two, False)
        one.clear_entries("ann")
        one.swap("ann", 0)
        self.check_equal(one, two, True)

    def test_what_can_be_undone_is_not_compared(self):
        one, two = Replica(Base(NAMES), USERS, USERS), Replica(Base(NAMES), USERS, USERS)
        one.swap("ann", 0)
        one.undo("ann")
        two.swap("ann", 0)
        two.clear_entries("ann")
        self.check_equal(one, two, True)

    def test_other_values(self):
        replica = Replica(Base(NAMES), USERS, USERS)
        for value in no_names() + ["ann", Base(NAMES), Board(Base(NAMES), USERS)]:
            if not isinstance(value, AlwaysEqual):
                self.check_equal(replica, value, False)
        self.assertIs(replica == AlwaysEqual(), False)


if __name__ == "__main__":
    unittest.main()
