"""Tests of the messages of replicas: what they contain, what receiving them does, and which are refused."""

import copy
import random
import unittest

from ordermerge.bases import Base
from ordermerge.errors import Forked, InvalidMessage
from ordermerge.replicas import Replica
from tests.helpers import AlwaysEqual, ErrorCase, no_integers, no_lists, no_names, no_tuples
from tests.log_model import replay
from tests.models import ReplicaModel, call_on, random_operation
from tests.test_replicas import state_of

NAMES = ["m", "z", "a", "k"]
USERS = ["dan", "ann", "bo"]
NEW = [("dan", 0, ()), ("ann", 0, ()), ("bo", 0, ())]


def replica_of_ann():
    """Return a replica at which ann is at version 2, and which knows version 3 of bo."""
    replica = Replica(Base(NAMES), USERS, ["ann"])
    replica.swap("ann", 0)
    replica.swap("ann", 1, reason="urgent")
    replica.receive([("dan", 0, ()), ("ann", 0, ()), ("bo", 3, ((2, "late"),))])
    return replica


class MessageTest(unittest.TestCase):
    def test_form(self):
        self.assertEqual(repr(Replica(Base(NAMES), USERS, []).message()), repr(NEW))
        expected = [("dan", 0, ()), ("ann", 2, ((0, ""), (1, "urgent"))), ("bo", 3, ((2, "late"),))]
        self.assertEqual(repr(replica_of_ann().message()), repr(expected))

    def test_it_is_new_each_time(self):
        replica = replica_of_ann()
        first = replica.message()
        kept = copy.deepcopy(first)
        replica.swap("ann", 0)
        self.assertEqual(first, kept)
        self.assertNotEqual(replica.message(), kept)
        first.clear()
        self.assertEqual(len(replica.message()), 3)


class ReceiveTest(ErrorCase):
    def test_newer_versions_replace_logs(self):
        replica = replica_of_ann()
        message = [("dan", 7, ((0, "x"), (1, ""))), ("ann", 1, ()), ("bo", 4, ())]
        kept = copy.deepcopy(message)
        self.assertEqual(replica.receive(message), ["dan", "bo"])
        self.assertEqual(repr(message), repr(kept))
        self.assertEqual(replica.versions(), {"dan": 7, "ann": 2, "bo": 4})
        self.assertEqual(replica.entries("dan"), [(0, "x"), (1, "")])
        self.assertEqual(replica.order("dan"), ["z", "a", "m", "k"])
        self.assertEqual((replica.order("bo"), replica.order("ann")), (NAMES, ["z", "a", "m", "k"]))
        self.assertEqual(replica.receive(message), [])

    def test_a_newer_version_with_the_same_entries(self):
        replica = replica_of_ann()
        self.assertEqual(replica.receive([("dan", 1, ()), ("ann", 0, ()), ("bo", 4, ((2, "late"),))]), ["dan", "bo"])
        self.assertEqual(replica.versions(), {"dan": 1, "ann": 2, "bo": 4})

    def test_older_versions_have_no_effect(self):
        replica = replica_of_ann()
        before = state_of(replica)
        for message in [NEW, [("dan", 0, ()), ("ann", 1, ((2, "q"),)), ("bo", 2, ((0, ""),))], replica.message()]:
            self.assertEqual(replica.receive(message), [])
            self.assertEqual(state_of(replica), before)

    def test_later_changes_of_the_message(self):
        replica = replica_of_ann()
        message = [("dan", 1, ((0, ""),)), ("ann", 0, ()), ("bo", 0, ())]
        replica.receive(message)
        before = state_of(replica)
        message[0] = ("dan", 9, ())
        message.clear()
        self.assertEqual(state_of(replica), before)

    def test_a_great_version(self):
        replica = Replica(Base(NAMES), USERS, [])
        self.assertEqual(replica.receive([("dan", 0, ()), ("ann", 0, ()), ("bo", 10 ** 30, ())]), ["bo"])
        self.assertEqual(replica.version("bo"), 10 ** 30)

    def test_undo_after_receiving(self):
        replica = replica_of_ann()
        replica.undo("ann")
        replica.undo("ann")
        self.assertEqual(replica.versions(), {"dan": 0, "ann": 4, "bo": 3})
        self.assertEqual(replica.entries("ann"), [])


class InvalidMessageTest(ErrorCase):
    def check_invalid(self, position, message):
        replica = replica_of_ann()
        before, shown = state_of(replica), repr(message)
        with self.subTest(message=message):
            self.check_error(InvalidMessage(position), replica.receive, message)
            self.assertEqual(state_of(replica), before)
            self.assertEqual(repr(message), shown)

    def check_elements(self, values):
        """Check that each value is refused at each place of a message, ahead of what is wrong behind it."""
        for value in values:
            for at in range(3):
                self.check_invalid(at, NEW[:at] + [value] + NEW[at + 1:])
                self.check_invalid(at, NEW[:at] + [value, None])
                self.check_invalid(at, NEW[:at] + [value] + NEW)

    def test_no_list(self):
        for value in no_lists() + [tuple(NEW), {"ann": 1}]:
            self.check_invalid(0, value)

    def test_no_tuple_of_three(self):
        self.check_elements(no_tuples())
        self.check_elements([(), ("ann",), ("ann", 0), ("ann", 0, (), ()), ["ann", 0, ()], (("ann", 0, ()),)])

    def test_another_user(self):
        self.check_elements([(value, 0, ()) for value in no_names() + ["cy", "m", AlwaysEqual()]])
        self.check_invalid(0, [NEW[1], NEW[0], NEW[2]])
        self.check_invalid(1, [NEW[0], NEW[2], NEW[1]])
        self.check_invalid(1, [NEW[0], NEW[0], NEW[2]])
        self.check_invalid(2, [NEW[0], NEW[1], NEW[1]])

    def test_a_version_that_is_no_count(self):
        for value in no_integers() + [True, False, -1, -10 ** 30]:
            for at in range(3):
                self.check_invalid(at, NEW[:at] + [(USERS[at], value, ())] + NEW[at + 1:])

    def check_entries(self, values):
        for value in values:
            for version in [1, 2, 9]:
                self.check_invalid(1, [NEW[0], ("ann", version, value), NEW[2]])
                self.check_invalid(2, [NEW[0], NEW[1], ("bo", version, value)])

    def test_entries_that_are_no_tuple(self):
        self.check_entries(no_tuples() + [[(0, "")], [], {}])

    def test_entries_that_are_no_entries(self):
        wrong = no_tuples() + [[0, ""], (0,), (), (0, "", ""), ("", 0), (-1, ""), (3, ""), (True, ""), (False, "")]
        wrong += [(0, value) for value in no_names() if value != ""]
        self.check_entries([(value,) for value in wrong])
        self.check_entries([((0, ""), value) for value in wrong])

    def test_entries_that_are_no_log_of_the_base(self):
        self.check_entries([((0, ""), (0, "")), ((2, ""), (1, ""), (2, ""), (1, "")), ((0, ""), (1, ""), (1, "x"))])

    def test_version_0_with_entries(self):
        for at in range(3):
            self.check_invalid(at, NEW[:at] + [(USERS[at], 0, ((0, ""),))] + NEW[at + 1:])

    def test_too_short_and_too_long(self):
        for size in range(3):
            self.check_invalid(size, NEW[:size])
        for more in [NEW[:1], NEW, [None], [("cy", 0, ())]]:
            self.check_invalid(3, NEW + more)
        self.check_invalid(1, [("dan", 5, ((0, ""),))])

    def test_nothing_is_taken_over_from_a_message_that_is_refused(self):
        self.check_invalid(2, [("dan", 5, ((0, ""),)), NEW[1], None])
        self.check_invalid(3, [("dan", 5, ((0, ""),)), NEW[1], NEW[2], None])


class ForkedTest(ErrorCase):
    def check_forked(self, user, message):
        replica = replica_of_ann()
        before, shown = state_of(replica), repr(message)
        self.check_error(Forked(user), replica.receive, message)
        self.assertEqual(state_of(replica), before)
        self.assertEqual(repr(message), shown)

    def test_the_known_version_with_other_entries(self):
        for entries in [(), ((0, ""),), ((0, ""), (1, "")), ((0, ""), (1, "urgent"), (2, "")), ((2, ""),)]:
            self.check_forked("ann", [NEW[0], ("ann", 2, entries), NEW[2]])
        for entries in [(), ((2, ""),), ((1, "late"),)]:
            self.check_forked("bo", [NEW[0], NEW[1], ("bo", 3, entries)])

    def test_the_same_order_by_other_entries(self):
        replica = Replica(Base(NAMES), USERS, [])
        replica.receive([NEW[0], ("ann", 1, ((0, ""), (1, ""), (0, ""))), NEW[2]])
        message = [NEW[0], ("ann", 1, ((1, ""), (0, ""), (1, ""))), NEW[2]]
        self.check_error(Forked("ann"), replica.receive, message)

    def test_a_local_user_with_a_greater_version(self):
        for entries in [(), ((0, ""), (1, "urgent"))]:
            for version in [3, 10 ** 30]:
                self.check_forked("ann", [NEW[0], ("ann", version, entries), NEW[2]])

    def test_the_first_user_decides(self):
        self.check_forked("ann", [("dan", 1, ()), ("ann", 3, ()), ("bo", 3, ())])
        self.check_forked("bo", [("dan", 1, ((0, ""),)), ("ann", 1, ()), ("bo", 3, ())])

    def test_an_invalid_message_comes_before(self):
        replica = replica_of_ann()
        self.check_error(InvalidMessage(2), replica.receive, [NEW[0], ("ann", 3, ()), None])
        self.check_error(InvalidMessage(2), replica.receive, [NEW[0], ("ann", 3, ())])
        self.check_error(InvalidMessage(3), replica.receive, [NEW[0], ("ann", 3, ()), NEW[2], NEW[2]])


class ConvergenceTest(unittest.TestCase):
    def exchange(self, chance, names, places):
        """Let replicas work and exchange messages at random; return them and all messages."""
        users = [user for local in places for user in local]
        replicas = [Replica(Base(names), users, local) for local in places]
        models = [ReplicaModel(names, users, local) for local in places]
        messages = []
        for step in range(60):
            at = chance.randrange(len(places))
            replica, model = replicas[at], models[at]
            choice = chance.randrange(4)
            if choice == 0 and places[at]:
                user = chance.choice(places[at])
                if model.former[user] and chance.randrange(4) == 0:
                    replica.undo(user)
                    model.perform("undo", user, ())
                else:
                    word, parts = random_operation(chance, names, model.known[user][1])
                    result = call_on(replica, word, user, parts)
                    self.assertEqual(repr(result), repr(model.perform(word, user, parts)))
            elif choice == 1:
                messages.append(replica.message())
            elif messages:
                # Any message, also an old one, a repeated one or its own.
                message = chance.choice(messages)
                self.assertEqual(replica.receive(message), model.receive(message))
            self.assertEqual(repr(replica.message()), repr(model.message()))
            self.check_alike(replicas)
        return replicas

    def check_alike(self, replicas):
        """Check that what replicas know of the same version of a user is the same."""
        for one in replicas:
            for two in replicas:
                if one.versions() == two.versions():
                    self.assertEqual(one.message(), two.message())
                    self.assertEqual([one.merged(), one.common()], [two.merged(), two.common()])
                for user in one.users():
                    if one.version(user) == two.version(user):
                        self.assertEqual(one.order(user), two.order(user))

    def test_any_sequence_of_messages(self):
        chance = random.Random(52)
        choices = [[["ann"], ["bo"]], [["ann", "bo"], [], ["cy"]], [["ann"], ["bo", "dan"], ["cy"], []]]
        for turn in range(25):
            replicas = self.exchange(chance, NAMES[:chance.randrange(2, 5)], chance.choice(choices))
            messages = [replica.message() for replica in replicas] * 2
            for replica in replicas:
                for message in chance.sample(messages, len(messages)):
                    replica.receive(message)
            for replica in replicas:
                self.assertEqual(replica.versions(), replicas[0].versions())
                self.assertEqual(replica.message(), replicas[0].message())
                for user in replica.users():
                    self.assertEqual(replica.order(user), replicas[0].order(user))
                    self.assertEqual(replica.order(user), replay(replica.base().names(), replica.entries(user))[0])
                self.assertEqual(replica.merged(), replicas[0].merged())


if __name__ == "__main__":
    unittest.main()
