"""Tests of the document's guarantees over long histories, on a console and in a group."""

import random
import unittest
from itertools import permutations

from ordermerge.arcs import arcs_of, is_arc_within, is_reduced, join_of_arcs, supporters
from ordermerge.bases import Base, inverted_pairs, is_inverted
from ordermerge.boards import Board
from ordermerge.console import Console
from ordermerge.explain import explain_inverted, explain_upright, is_chain, is_meet_chain
from ordermerge.groups import Group
from ordermerge.histories import is_history, log_from_pairs, pairs_of_log
from ordermerge.merging import is_within, join_orders, meet_orders
from ordermerge.moves import are_moves, moves_between, word_of
from ordermerge.pair_sets import is_inversion_set, part_about
from ordermerge.swap_log import log_from_entries
from tests.helpers import all_words, forty_names
from tests.models import BoardModel, as_recorded, call_on, random_operation
from tests.text_model import model_line

FIVE = ["m", "z", "a", "k", "b"]
EIGHT = ["ann", "bo", "cy", "dan", "eve", "fay", "m", "abcdefgh"]
HOMES = [("east", ["dan", "ann"]), ("lab", []), ("west", ["bo"])]


class GuaranteesCase(unittest.TestCase):
    """A test case that knows what the document guarantees for the logs of all users."""

    def check_log(self, base, entries, order):
        """NO USELESS ENTRY and HISTORIES."""
        log = log_from_entries(base, entries)
        self.assertEqual(log.order(), order)
        pairs = pairs_of_log(log)
        self.assertEqual(len(entries), len(inverted_pairs(base, order)))
        self.assertEqual(sorted(pairs), sorted(inverted_pairs(base, order)))
        self.assertIs(is_history(base, pairs), True)
        self.assertEqual(log_from_pairs(base, pairs).order(), order)
        self.assertIs(is_inversion_set(base, pairs), True)
        names = base.names()
        if len(names) <= 5:
            for first, second, third in permutations(names, 3):
                if base.precedes(first, second) and base.precedes(second, third):
                    part = part_about(base, pairs, first, second, third)
                    self.assertIs(is_history(Base([first, second, third]), part), True)

    def check_arcs(self, base, orders, merged):
        """DESCRIPTION BY ARCS."""
        arcs = arcs_of(base, merged)
        self.assertEqual(join_of_arcs(base, arcs), merged)
        self.assertIs(is_reduced(base, arcs), True)
        for at, arc in enumerate(arcs):
            self.assertNotEqual(join_of_arcs(base, arcs[:at] + arcs[at + 1:]), merged)
            self.assertIs(any([is_arc_within(base, arc, order) for order in orders]), True)
        self.assertEqual([arc for arc, indexes in supporters(base, orders)], arcs)

    def check_chains(self, base, orders, merged, common, pairs):
        """NO CONFLICT."""
        for first, second in pairs:
            chain = explain_inverted(base, orders, first, second)
            self.assertIs(chain is not None, is_inverted(base, merged, first, second))
            self.assertIs(is_chain(base, orders, first, second, chain), chain is not None)
            chain = explain_upright(base, orders, first, second)
            self.assertIs(chain is not None, not is_inverted(base, common, first, second))
            self.assertIs(is_meet_chain(base, orders, first, second, chain), chain is not None)

    def check_merged(self, base, orders, merged, common):
        """NO CONFLICT, ONE RESULT and DUALITY."""
        self.assertEqual([join_orders(base, orders), meet_orders(base, orders)], [merged, common])
        for order in orders:
            self.assertIs(is_within(base, order, merged), True)
            self.assertIs(is_within(base, common, order), True)
        turned = orders[::-1] + orders[:1]
        self.assertEqual([join_orders(base, turned), meet_orders(base, turned)], [merged, common])
        cut = len(orders) // 2
        for merge, result in [(join_orders, merged), (meet_orders, common)]:
            self.assertEqual(merge(base, [merge(base, orders[:cut]), merge(base, orders[cut:])]), result)
        reverse = Base(base.names()[::-1])
        self.assertEqual([meet_orders(reverse, orders), join_orders(reverse, orders)], [merged, common])


class ConsoleTest(GuaranteesCase):
    def check_board(self, board, pairs):
        base, users = board.base(), board.users()
        orders = [board.order(user) for user in users]
        for user, order in zip(users, orders):
            self.check_log(base, board.entries(user), order)
        self.check_arcs(base, orders, board.merged())
        self.check_merged(base, orders, board.merged(), board.common())
        self.check_chains(base, orders, board.merged(), board.common(), pairs)

    def test_long_histories(self):
        chance = random.Random(101)
        for names, users in [(FIVE, EIGHT[:3]), (FIVE[:4], EIGHT), (FIVE[:3], ["ann"]), (FIVE[:2], EIGHT[:2])]:
            console, model = Console(Base(names), users), BoardModel(names, users)
            for step in range(100):
                user = chance.choice(users)
                word, parts = random_operation(chance, names, model.entries(user))
                model.perform(word, user, parts)
                console.execute(model_line(as_recorded(word, user, parts)))
                if step % 5 == 0:
                    self.check_board(console.board(), list(permutations(names, 2)))

    def test_a_swap_that_goes_back_cancels_one_entry(self):
        chance = random.Random(102)
        board = Board(Base(FIVE), ["ann"])
        for step in range(100):
            index, before = chance.randrange(4), board.entries("ann")
            position = board.swap("ann", index, reason=chance.choice(["x", "y"]))
            entries = board.entries("ann")
            if position is None:
                self.assertEqual(entries[:-1], before)
            else:
                self.assertEqual(entries, before[:position] + before[position + 1:])
            self.check_log(board.base(), entries, board.order("ann"))

    def test_words_of_the_same_order_are_connected(self):
        chance = random.Random(103)
        board = Board(Base(FIVE), ["ann"])
        for step in range(20):
            word, parts = random_operation(chance, FIVE, board.entries("ann"))
            call_on(board, word, "ann", parts)
            first = word_of(log_from_entries(board.base(), board.entries("ann")))
            second = chance.choice(all_words(FIVE, board.order("ann")))
            moves = moves_between(board.base(), first, second)
            self.assertIs(are_moves(board.base(), first, second, moves), True)

    def test_forty_items_and_eight_users(self):
        chance, names = random.Random(104), forty_names()
        console = Console(Base(names), EIGHT)
        for step in range(48):
            command = f"move {EIGHT[step % 8]} {chance.choice(names)} {chance.randrange(40)} far"
            added, cancelled = console.execute(command).split(" ")
            self.assertEqual(command, model_line(console.board().operations()[-1]))
        self.check_board(console.board(), [chance.sample(names, 2) for turn in range(30)])
        merged = console.execute("merged")
        for user in EIGHT:
            self.assertEqual(console.execute(f"accept {user}").split(" ")[1], "0")
        self.assertEqual([console.execute("merged"), console.execute("common")], [merged, merged])
        self.assertEqual(console.execute("undo 56"), "0")
        self.assertEqual(console.execute("merged"), " ".join(names))


class GroupTest(GuaranteesCase):
    def check_group(self, group):
        base = group.base()
        for name in group.names():
            orders = [group.order(name, user) for user in group.users()]
            for user, order in zip(group.users(), orders):
                self.check_log(base, group.entries(name, user), order)
            merged, common = group.merged(name), meet_orders(base, orders)
            self.check_arcs(base, orders, merged)
            self.check_merged(base, orders, merged, common)
            self.check_chains(base, orders, merged, common, list(permutations(base.names()[:5], 2)))
            for other in group.names():
                if group.versions(name) == group.versions(other):
                    self.assertEqual(merged, group.merged(other))
                    self.assertEqual(orders, [group.order(other, user) for user in group.users()])

    def step(self, chance, group, sent):
        """Let the group do something at random. Return how many messages were sent up to now."""
        choice = chance.randrange(20)
        if choice < 9:
            user = chance.choice(group.users())
            entries = group.entries(group.home(user), user)
            word, parts = random_operation(chance, group.base().names(), entries)
            group.perform(user, (word, *parts))
        elif choice < 13:
            group.send(chance.choice(group.names()))
            return sent + 1
        elif choice < 18 and sent:
            group.deliver(chance.randrange(sent), chance.choice(group.names()))
        elif choice == 18:
            group.settle()
        elif choice == 19:
            group.settle()
            names = group.base().names()
            if chance.randrange(2) and len(names) > 3:
                group.remove_item(chance.choice(names))
            elif chance.randrange(3) == 0:
                group.rebase(group.merged("lab"))
            else:
                group.add_item([item for item in "pqrstuv" if item not in names][0])
        return sent

    def test_long_histories(self):
        chance = random.Random(105)
        for turn in range(6):
            group, sent = Group(Base(FIVE[:4]), HOMES), 0
            for step in range(100):
                sent = self.step(chance, group, sent)
                if step % 10 == 0:
                    self.check_group(group)
            group.settle()
            self.check_group(group)
            self.assertEqual(group.merged("east"), group.merged("west"))

    def test_forty_items_and_eight_users(self):
        chance, names = random.Random(106), forty_names()
        homes = [("e", EIGHT[:1]), ("f", EIGHT[1:3]), ("g", []), ("h", EIGHT[3:6]), ("i", EIGHT[6:7]), ("j", EIGHT[7:])]
        group = Group(Base(names), homes)
        for turn in range(3):
            for user in EIGHT:
                group.perform(user, ("move", chance.choice(names), chance.randrange(40), "far"))
        group.settle()
        self.check_group(group)
        before = group.merged("g")
        group.remove_item(names[11])
        self.assertEqual(len(group.base()), 39)
        self.assertLessEqual({name for name in group.merged("g")}, set(before))
        group.add_item(names[11])
        group.rebase(group.merged("g"))
        self.assertEqual(group.merged("j"), group.base().names())


class NamesTest(unittest.TestCase):
    def test_with_other_names_everything_is_the_same(self):
        chance = random.Random(107)
        items = dict(zip(FIVE, ["base", "swap", "ann", "bo", "x"]))
        people = dict(zip(EIGHT[:3], ["zoe", "k", "clear"]))

        def other(value):
            """Return a value with the other names of items and users, which are all different."""
            if isinstance(value, str):
                return {**items, **people}.get(value, value)
            return type(value)([other(part) for part in value]) if isinstance(value, (list, tuple)) else value

        one, two = Board(Base(FIVE[:4]), EIGHT[:3]), Board(Base(other(FIVE[:4])), other(EIGHT[:3]))
        for step in range(80):
            user = chance.choice(EIGHT[:3])
            word, parts = random_operation(chance, FIVE[:4], one.entries(user))
            self.assertEqual(call_on(one, word, user, parts), call_on(two, word, other(user), other(parts)))
            self.assertEqual(one.entries(user), two.entries(other(user)))
            for call in ["merged", "common", "needed_users", "supporters"]:
                self.assertEqual(other(getattr(one, call)()), getattr(two, call)())
            first, second = chance.sample(FIVE[:4], 2)
            chain = one.explain(first, second)
            self.assertEqual(other(chain), two.explain(other(first), other(second)))

    def test_the_sequence_of_the_users_has_no_effect(self):
        chance = random.Random(108)
        for users in permutations(EIGHT[:3]):
            one, two = Board(Base(FIVE), EIGHT[:3]), Board(Base(FIVE), list(users))
            for step in range(20):
                user = chance.choice(users)
                word, parts = random_operation(chance, FIVE, one.entries(user))
                self.assertEqual(call_on(one, word, user, parts), call_on(two, word, user, parts))
                self.assertEqual([one.merged(), one.common()], [two.merged(), two.common()])
                self.assertEqual(sorted(one.needed_users()), sorted(two.needed_users()))
                self.assertEqual(
                    [(arc, sorted(names)) for arc, names in one.supporters()],
                    [(arc, sorted(names)) for arc, names in two.supporters()],
                )


if __name__ == "__main__":
    unittest.main()
