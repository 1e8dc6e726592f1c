"""Tests of ordermerge.rebase."""

import random
import unittest

from ordermerge.bases import Base
from ordermerge.errors import InvalidBase, LastItem, UnknownItem
from ordermerge.histories import pairs_of_log
from ordermerge.rebase import with_item, without_item
from ordermerge.swap_log import SwapLog, log_from_entries
from tests.helpers import ErrorCase, all_orders, all_words, forty_names, no_names
from tests.log_model import replay
from tests.models import model_without

NAMES = ["m", "z", "a", "k"]
LETTERS = "abcdefghijklmnopqrstuvwxyz"


def log_of_word(names, word):
    """Return the log of a word; each entry has a reason of its own, the first one has none."""
    return log_from_entries(Base(names), [(index, "r" + LETTERS[at] if at else "") for at, index in enumerate(word)])


def some_logs():
    """Return all logs of up to four items, and several of six and of forty."""
    chance = random.Random(61)
    logs = [
        log_of_word(names, word)
        for names in [["m"], ["m", "z"], ["m", "z", "a"], NAMES]
        for order in all_orders(names) for word in all_words(names, order)
    ]
    for names in [["f", "b", "e", "c", "a", "d"]] * 20 + [forty_names()] * 3:
        log = SwapLog(Base(names))
        for turn in range(30):
            log.swap(chance.randrange(len(names) - 1), reason=chance.choice(["", "late", "urgent"]))
        logs.append(log)
    return logs


def state_of(log):
    return repr((log.base(), log))


class WithItemTest(ErrorCase):
    def test_the_item_becomes_the_last_one(self):
        for log in some_logs():
            names = log.base().names()
            if len(names) < 40:
                before = state_of(log)
                result = with_item(log, "new")
                self.assertIsInstance(result, SwapLog)
                self.assertEqual(result.base(), Base(names + ["new"]))
                self.assertEqual(result.order(), log.order() + ["new"])
                self.assertEqual(repr(result.entries()), repr(log.entries()))
                self.assertEqual(state_of(log), before)

    def test_the_new_log_is_independent(self):
        log = log_of_word(NAMES, [0, 1, 0])
        before = state_of(log)
        result = with_item(log, "new")
        result.swap(3)
        result.swap(0)
        self.assertEqual(state_of(log), before)
        again = with_item(log, "new")
        log.clear_entries()
        self.assertEqual(len(again), 3)

    def test_invalid_items(self):
        log = log_of_word(NAMES, [0, 1, 0])
        for value in no_names():
            self.check_error(InvalidBase("name", 4), with_item, log, value)
        for value in NAMES:
            self.check_error(InvalidBase("duplicate", 4), with_item, log, value)
        self.check_error(InvalidBase("duplicate", 1), with_item, SwapLog(Base(["only"])), "only")
        self.assertEqual(len(log), 3)

    def test_forty_items(self):
        names = forty_names()
        log = SwapLog(Base(names))
        self.check_error(InvalidBase("count", 0), with_item, log, "new")
        self.check_error(InvalidBase("name", 40), with_item, log, "New")
        self.check_error(InvalidBase("duplicate", 40), with_item, log, names[7])
        self.assertEqual(with_item(SwapLog(Base(names[:39])), "new").base().names(), names[:39] + ["new"])


class WithoutItemTest(ErrorCase):
    def check_removed(self, log, item):
        """Check the log without an item against the log itself and against the document's words."""
        names, before = log.base().names(), state_of(log)
        result = without_item(log, item)
        left = [name for name in names if name != item]
        self.assertIsInstance(result, SwapLog)
        self.assertEqual(result.base(), Base(left))
        self.assertEqual(result.order(), [name for name in log.order() if name != item])
        self.assertEqual(repr(result.entries()), repr(model_without(names, log.entries(), item)))
        self.assertEqual(replay(left, result.entries())[0], result.order())
        # The pairs without the item are inverted in the same sequence, for the same reasons, and by outward swaps.
        kept = [
            (pair, reason) for pair, (index, reason) in zip(pairs_of_log(log), log.entries()) if item not in pair
        ]
        reasons = [reason for index, reason in result.entries()]
        self.assertEqual(list(zip(pairs_of_log(result), reasons)), kept)
        self.assertEqual(log_from_entries(Base(left), result.entries()), result)
        self.assertEqual(state_of(log), before)

    def test_each_item_of_each_log(self):
        for log in some_logs():
            names = log.base().names()
            for item in names[::1 if len(names) < 40 else 6]:
                if len(names) > 1:
                    self.check_removed(log, item)

    def test_the_index_decreases_behind_the_item(self):
        # m stands first, in the middle, last when the other two are swapped.
        for word, entries in [([1, 0], [(0, "")]), ([0, 1, 0], [(0, "rc")]), ([2, 0, 1], [(1, ""), ]), ([0, 1, 2], [])]:
            self.assertEqual(without_item(log_of_word(NAMES, word), "m").entries(), entries)

    def test_removing_an_item_that_was_added(self):
        for log in some_logs():
            if len(log.base()) < 40:
                self.assertEqual(without_item(with_item(log, "new"), "new"), log)

    def test_the_new_log_is_independent(self):
        log = log_of_word(NAMES, [0, 1, 0])
        before = state_of(log)
        without_item(log, "k").clear_entries()
        self.assertEqual(state_of(log), before)

    def test_unknown_items(self):
        for log in [log_of_word(NAMES, [0, 1, 0]), SwapLog(Base(["only"]))]:
            for value in no_names() + ["q"]:
                self.check_value(UnknownItem, value, without_item, log, value)

    def test_the_last_item(self):
        self.check_error(LastItem("only"), without_item, SwapLog(Base(["only"])), "only")
        self.assertEqual(without_item(log_of_word(["m", "z"], [0]), "m"), SwapLog(Base(["z"])))


if __name__ == "__main__":
    unittest.main()
