"""Tests of the messages of groups, of settling, and of changes of the base, also against a plain model."""

import random
import unittest

from ordermerge.bases import Base
from ordermerge.errors import (
    InvalidBase, InvalidOrder, LastItem, NothingToUndo, NotSettled, UnknownItem, UnknownMessage, UnknownReplica,
)
from ordermerge.groups import Group
from tests.helpers import AlwaysEqual, ErrorCase, forty_names, no_integers, no_lists, no_names
from tests.models import GroupModel, model_join, random_operation
from tests.test_groups import HOMES, NAMES, state_of, used_group


def changes_of_base(group):
    """Return the calls that change the base of the used group, each with arguments that are valid."""
    return [(group.add_item, "new"), (group.remove_item, "z"), (group.rebase, NAMES[::-1]), (group.rebase, list(NAMES))]


class DeliveringTest(ErrorCase):
    def test_numbers(self):
        group = Group(Base(NAMES), HOMES)
        self.assertEqual([group.send(name) for name in ["west", "east", "west", "lab"]], [0, 1, 2, 3])
        group.deliver(0, "east")
        group.settle()
        self.assertEqual(repr(group.send("east")), "4")

    def test_a_message_keeps_the_state_at_which_it_was_sent(self):
        group = Group(Base(NAMES), HOMES)
        group.perform("ann", ("swap", 0, ""))
        group.send("east")
        group.perform("ann", ("swap", 1, ""))
        self.assertEqual(group.deliver(0, "west"), ["ann"])
        self.assertEqual((group.entries("west", "ann"), group.versions("west")["ann"]), ([(0, "")], 1))
        group.send("east")
        self.assertEqual([group.deliver(number, "west") for number in [1, 0, 1]], [["ann"], [], []])
        self.assertEqual(group.entries("west", "ann"), [(0, ""), (1, "")])

    def test_any_sequence_and_the_sender(self):
        group = used_group()
        group.perform("dan", ("undo",))
        group.send("east")
        group.send("west")
        self.assertEqual(group.deliver(1, "lab"), ["dan", "ann"])
        self.assertEqual(group.deliver(0, "lab"), [])
        self.assertEqual([group.deliver(number, "east") for number in range(3)], [[], [], ["bo"]])
        self.assertEqual([group.deliver(number, "west") for number in [2, 1, 0]], [[], ["dan"], []])
        self.assertEqual([group.deliver(2, "lab"), group.is_settled()], [["bo"], True])

    def test_through_another_replica(self):
        group = used_group()
        self.assertEqual(group.deliver(group.send("west"), "lab"), ["dan", "ann", "bo"])
        self.assertEqual(group.merged("lab"), group.merged("west"))

    def test_unknown_messages_come_first(self):
        group = used_group()
        before = state_of(group)
        for value in no_integers() + [True, False, -1, 1, 2, 10 ** 30, AlwaysEqual()]:
            for name in ["east", "nowhere", None]:
                self.check_value(UnknownMessage, value, group.deliver, value, name)
        for value in no_names() + ["nowhere", "ann", AlwaysEqual()]:
            self.check_value(UnknownReplica, value, group.deliver, 0, value)
        self.assertEqual(state_of(group), before)
        for value in [0, False]:
            self.check_error(UnknownMessage(value), Group(Base(NAMES), HOMES).deliver, value, "east")


class SettlingTest(ErrorCase):
    def test_settle(self):
        group = used_group()
        self.assertIs(group.is_settled(), False)
        self.assertIsNone(group.settle())
        self.assertIs(group.is_settled(), True)
        for name in group.names():
            self.assertEqual(group.versions(name), {"dan": 1, "ann": 2, "bo": 1})
            self.assertEqual(group.merged(name), group.merged("east"))
            self.assertEqual(group.entries(name, "ann"), [(0, ""), (1, "urgent")])
            self.assertEqual(group.entries(name, "bo"), [(2, "")])
        before = state_of(group)
        self.assertIsNone(group.settle())
        self.assertEqual(state_of(group), before)

    def test_what_can_be_undone_stays(self):
        group = used_group()
        group.settle()
        group.perform("ann", ("undo",))
        self.assertEqual((group.entries("east", "ann"), group.versions("east")["ann"]), ([(0, "")], 3))

    def test_one_replica_is_always_settled(self):
        group = Group(Base(NAMES), [("east", ["ann"])])
        group.perform("ann", ("swap", 0, ""))
        self.assertIs(group.is_settled(), True)
        group.add_item("new")
        self.assertEqual(group.base(), Base(NAMES + ["new"]))

    def test_versions_decide_not_orders(self):
        group = Group(Base(NAMES), HOMES)
        group.perform("bo", ("clear",))
        self.assertIs(group.is_settled(), False)
        self.check_error(NotSettled("west"), group.add_item, "new")


class ChangingTheBaseTest(ErrorCase):
    def settled(self):
        group = used_group()
        group.settle()
        return group

    def test_not_settled_comes_first(self):
        for value in [None, "new", "z", NAMES, list(NAMES[::-1])]:
            group = used_group()
            before = state_of(group)
            for call in [group.add_item, group.remove_item, group.rebase]:
                self.check_error(NotSettled("lab"), call, value)
            self.assertEqual(state_of(group), before)

    def test_the_first_replica_that_differs_from_the_first_one(self):
        for delivered, name in [([], "lab"), (["lab"], "west"), (["west"], "lab")]:
            group = Group(Base(NAMES), HOMES)
            group.perform("ann", ("swap", 0, ""))
            group.send("east")
            for other in delivered:
                group.deliver(0, other)
            self.check_error(NotSettled(name), group.rebase, NAMES)
        group = Group(Base(NAMES), HOMES)
        group.perform("bo", ("swap", 0, ""))
        self.check_error(NotSettled("west"), group.rebase, NAMES)

    def test_errors_leave_everything_as_it_was(self):
        rows = [(InvalidBase("name", 4), "add_item", value) for value in no_names()]
        rows += [(InvalidBase("duplicate", 4), "add_item", name) for name in NAMES]
        rows += [(UnknownItem(value), "remove_item", value) for value in no_names() + ["q", "ann"]]
        rows += [(InvalidOrder(0), "rebase", value) for value in no_lists() + [tuple(NAMES), []]]
        rows += [(InvalidOrder(3), "rebase", NAMES[:3]), (InvalidOrder(4), "rebase", NAMES + ["m"])]
        for expected, name, value in rows:
            group = self.settled()
            before = state_of(group)
            self.check_error(expected, getattr(group, name), value)
            self.assertEqual(state_of(group), before)
            # Messages and what can be undone are as before, too.
            group.perform("ann", ("swap", 2, ""))
            self.assertEqual(group.deliver(group.send("east"), "lab"), ["ann"])
            group.perform("bo", ("undo",))

    def test_forty_items_and_the_last_item(self):
        names = forty_names()
        group = Group(Base(names), HOMES)
        self.check_error(InvalidBase("count", 0), group.add_item, "new")
        group.remove_item(names[3])
        group.add_item("new")
        self.assertEqual(group.base().names(), names[:3] + names[4:] + ["new"])
        group = Group(Base(["m", "z"]), HOMES)
        group.remove_item("m")
        self.check_error(UnknownItem("m"), group.remove_item, "m")
        self.check_error(LastItem("z"), group.remove_item, "z")
        self.assertEqual(group.versions("lab"), {"dan": 1, "ann": 1, "bo": 1})

    def test_adding_and_removing_an_item(self):
        group = self.settled()
        entries = {user: group.entries("east", user) for user in group.users()}
        self.assertIsNone(group.add_item("new"))
        self.assertEqual(group.base(), Base(NAMES + ["new"]))
        for name in group.names():
            for user in group.users():
                self.assertEqual(group.entries(name, user), entries[user])
                self.assertEqual(group.order(name, user)[-1], "new")
        self.assertIsNone(group.remove_item("z"))
        self.assertEqual(group.base(), Base(["m", "a", "k", "new"]))
        for name in group.names():
            self.assertEqual(group.order(name, "ann"), ["a", "m", "k", "new"])
            self.assertEqual(group.entries(name, "ann"), [(0, "urgent")])
            self.assertEqual(group.entries(name, "dan"), [(1, "late"), (0, "late")])
            self.assertEqual(group.entries(name, "bo"), [(1, "")])

    def test_rebasing(self):
        group, order = self.settled(), ["k", "m", "a", "z"]
        self.assertIsNone(group.rebase(order))
        order.reverse()
        self.assertEqual(group.base(), Base(["k", "m", "a", "z"]))
        for name in group.names():
            self.assertEqual(group.merged(name), ["k", "m", "a", "z"])
            for user in group.users():
                self.assertEqual((group.order(name, user), group.entries(name, user)), (["k", "m", "a", "z"], []))
        group.perform("ann", ("swap", 0, ""))
        self.assertEqual(group.merged("east"), ["m", "k", "a", "z"])

    def test_every_version_increases_and_nothing_can_be_undone(self):
        for at in range(4):
            group = self.settled()
            call, value = changes_of_base(group)[at]
            self.assertIsNone(call(value))
            for name in group.names():
                self.assertEqual(repr(group.versions(name)), "{'dan': 2, 'ann': 3, 'bo': 2}")
            for user in group.users():
                self.check_error(NothingToUndo(user), group.perform, user, ("undo",))
            self.assertIs(group.is_settled(), True)
            group.perform("ann", ("clear",))
            group.perform("ann", ("undo",))
            self.check_error(NothingToUndo("ann"), group.perform, "ann", ("undo",))

    def test_messages_that_were_sent_before(self):
        for at in range(4):
            group = self.settled()
            group.perform("ann", ("swap", 2, "old"))
            self.assertEqual(group.send("east"), 1)
            group.settle()
            call, value = changes_of_base(group)[at]
            call(value)
            before = state_of(group)
            for number in [0, 1, 0]:
                for name in group.names():
                    self.assertEqual(group.deliver(number, name), [])
            self.assertEqual(state_of(group), before)
            self.check_error(UnknownMessage(2), group.deliver, 2, "east")
            self.check_error(UnknownReplica("nowhere"), group.deliver, 0, "nowhere")
            group.perform("ann", ("swap", 0, "new"))
            self.assertEqual(group.send("east"), 2)
            self.assertEqual([group.deliver(number, "west") for number in [2, 2, 1]], [["ann"], [], []])
            self.assertEqual(group.entries("west", "ann"), group.entries("east", "ann"))


class ModelTest(unittest.TestCase):
    def check_group(self, group, model):
        """Check all that a group tells against the model, and that equal versions mean equal orders."""
        self.assertEqual((group.base().names(), group.is_settled()), (model.names, model.is_settled()))
        for name, replica in model.replicas.items():
            self.assertEqual(repr(group.versions(name)), repr(model.versions(name)))
            self.assertEqual(group.merged(name), model_join(model.names, replica.orders()))
            for user, order in zip(group.users(), replica.orders()):
                self.assertEqual(repr(group.entries(name, user)), repr(replica.known[user][1]))
                self.assertEqual(group.order(name, user), order)
        for one in group.names():
            for two in group.names():
                for user in group.users():
                    if group.versions(one)[user] == group.versions(two)[user]:
                        self.assertEqual(group.order(one, user), group.order(two, user))

    def work(self, chance, group, model):
        """Let a user do something, or undo it."""
        user = chance.choice(group.users())
        replica = model.replicas[model.homes[user]]
        word, parts = "undo", ()
        if not replica.former[user] or chance.randrange(4):
            word, parts = random_operation(chance, model.names, replica.known[user][1])
        self.assertEqual(repr(group.perform(user, (word, *parts))), repr(model.perform(user, word, parts)))

    def change_the_base(self, chance, group, model):
        """Change the base of both, if it is possible."""
        if not model.is_settled():
            with self.assertRaises(NotSettled):
                group.rebase(model.names)
            return
        choice, size = chance.randrange(3), len(model.names)
        if choice == 0 and size < 6:
            name, value = "add_item", [item for item in "abcdefg" if item not in model.names][0]
        elif choice == 1 and size > 1:
            name, value = "remove_item", chance.choice(model.names)
        else:
            name, value = "rebase", chance.sample(model.names, size)
        self.assertIsNone(getattr(group, name)(value))
        getattr(model, name)(value)

    def test_many_calls(self):
        chance = random.Random(71)
        choices = [
            HOMES, [("east", ["ann"]), ("west", ["bo"])], [("only", ["ann", "bo"])],
            [("a", ["b"]), ("b", []), ("c", ["a", "c"]), ("d", ["e"]), ("e", ["f", "g"]), ("f", ["h"])],
        ]
        for turn in range(24):
            homes = choices[turn % 4]
            names = chance.sample(NAMES, chance.randrange(1, 5))
            group, model = Group(Base(names), homes), GroupModel(names, homes)
            for step in range(70):
                choice = chance.randrange(12)
                if choice < 4:
                    self.work(chance, group, model)
                elif choice < 6:
                    name = chance.choice(group.names())
                    self.assertEqual(group.send(name), model.send(name))
                elif choice < 10 and model.sent:
                    number, name = chance.randrange(len(model.sent)), chance.choice(group.names())
                    self.assertEqual(group.deliver(number, name), model.deliver(number, name))
                elif choice == 10:
                    self.assertIsNone(group.settle())
                    model.settle()
                else:
                    self.change_the_base(chance, group, model)
                self.check_group(group, model)


if __name__ == "__main__":
    unittest.main()
