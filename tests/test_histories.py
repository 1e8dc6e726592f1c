"""Tests of ordermerge.histories."""

import random
import unittest
from itertools import combinations, permutations

from ordermerge.bases import Base
from ordermerge.errors import BrokenHistory, InvalidPairs, InvalidReason
from ordermerge.histories import first_break, is_history, log_from_pairs, pairs_of_log
from ordermerge.pair_sets import part_about
from ordermerge.swap_log import SwapLog, log_from_entries
from tests.helpers import (
    ErrorCase, all_orders, all_words, forty_names, inverted_in, no_lists, no_names, no_tuples, pairs_in,
)
from tests.log_model import replay

NAMES = ["m", "z", "a", "k"]
FIVE = ["m", "z", "a", "k", "b"]


def history_of(names, word):
    """Return the pairs that the swaps of a word invert, in sequence."""
    return replay(names, [(index, "") for index in word])[1]


def seven_histories(first, second, third):
    """Return the seven histories of three items with rising positions."""
    one, two, both = (first, second), (second, third), (first, third)
    return [[], [one], [one, both], [one, both, two], [two], [two, both], [two, both, one]]


def is_history_by_threes(names, pairs):
    """Tell whether the part about any three items is one of the seven histories of three items."""
    for items in combinations(names, 3):
        part = [pair for pair in pairs if pair[0] in items and pair[1] in items]
        if part not in seven_histories(*items):
            return False
    return True


def inversion_sets(names):
    """Return the sets of the inverted pairs of all orders."""
    return {frozenset(inverted_in(names, order)) for order in all_orders(names)}


def break_by_the_text(sets, pairs):
    """Return the smallest count such that the first so many pairs are no inversion set, or None."""
    for count in range(len(pairs) + 1):
        if frozenset(pairs[:count]) not in sets:
            return count
    return None


class PairsOfLogTest(unittest.TestCase):
    def test_all_words_of_four_items(self):
        base = Base(NAMES)
        for order in all_orders(NAMES):
            for word in all_words(NAMES, order):
                log = log_from_entries(base, [(index, "x") for index in word])
                self.assertEqual(repr(pairs_of_log(log)), repr(history_of(NAMES, word)))
                self.assertEqual(pairs_of_log(log), [log.pair_at(at) for at in range(len(log))])

    def test_an_empty_log(self):
        self.assertEqual(pairs_of_log(SwapLog(Base(NAMES))), [])
        self.assertEqual(pairs_of_log(SwapLog(Base(["only"]))), [])

    def test_the_log_does_not_change_and_the_list_is_new(self):
        log = log_from_entries(Base(NAMES), [(0, ""), (1, "x")])
        pairs_of_log(log).clear()
        self.assertEqual(pairs_of_log(log), [("m", "z"), ("m", "a")])
        self.assertEqual(log.entries(), [(0, ""), (1, "x")])

    def test_forty_items(self):
        names = forty_names()
        log = SwapLog(Base(names))
        log.adopt(names[::-1])
        pairs = pairs_of_log(log)
        self.assertTrue(sorted(pairs) == sorted(pairs_in(names)))
        self.assertIsNone(first_break(Base(names), pairs))
        self.assertIs(is_history(Base(names), pairs), True)
        self.assertTrue(log_from_pairs(Base(names), pairs) == log)


class HistoryTest(ErrorCase):
    def check_history(self, names, pairs, sets):
        """Check that the pairs are taken for a history exactly if they are one, and where they break."""
        expected = break_by_the_text(sets, pairs)
        self.assertEqual(repr(first_break(Base(names), pairs)), repr(expected))
        self.assertIs(is_history(Base(names), pairs), expected is None)
        self.assertIs(is_history_by_threes(names, pairs), expected is None)

    def test_the_seven_histories_of_three_items(self):
        names = ["m", "z", "a"]
        found = []
        for count in range(4):
            for pairs in permutations(pairs_in(names), count):
                self.check_history(names, list(pairs), inversion_sets(names))
                if is_history(Base(names), list(pairs)):
                    found.append(list(pairs))
        self.assertEqual(sorted(found), sorted(seven_histories(*names)))

    def test_all_lists_of_pairs_of_up_to_four_items(self):
        for names in [["m"], ["m", "z"], NAMES]:
            sets = inversion_sets(names)
            for count in range(len(pairs_in(names)) + 1):
                for pairs in permutations(pairs_in(names), count):
                    self.check_history(names, list(pairs), sets)

    def test_lists_of_pairs_of_five_items(self):
        sets = inversion_sets(FIVE)
        chance = random.Random(6)
        histories = [history_of(FIVE, word) for word in all_words(FIVE, FIVE[::-1])]
        for pairs in chance.sample(histories, 60):
            self.check_history(FIVE, pairs, sets)
            for at in range(9):
                exchanged = pairs[:at] + [pairs[at + 1], pairs[at]] + pairs[at + 2:]
                self.check_history(FIVE, exchanged, sets)
                self.check_history(FIVE, pairs[:at] + pairs[at + 1:], sets)
                self.check_history(FIVE, pairs[:at], sets)
        for turn in range(400):
            self.check_history(FIVE, chance.sample(pairs_in(FIVE), chance.randrange(11)), sets)

    def test_the_parts_of_a_history_are_histories(self):
        base = Base(NAMES)
        for word in all_words(NAMES, NAMES[::-1]):
            pairs = history_of(NAMES, word)
            for items in combinations(NAMES, 3):
                self.assertIn(part_about(base, pairs, *items), seven_histories(*items))

    def test_changed_histories(self):
        base = Base(NAMES)
        pairs = [("m", "z"), ("m", "a"), ("m", "k"), ("z", "a")]
        self.assertIsNone(first_break(base, pairs))
        rows = [
            # Two pairs exchanged.
            ([("m", "a"), ("m", "z"), ("m", "k"), ("z", "a")], 1),
            ([("m", "z"), ("m", "k"), ("m", "a"), ("z", "a")], 2),
            # These two can be exchanged.
            ([("m", "z"), ("m", "a"), ("z", "a"), ("m", "k")], None),
            # A pair left out, a pair put in.
            (pairs[1:], 1), (pairs[:1] + pairs[2:], 2), (pairs[:2] + pairs[3:], None), (pairs[:3], None),
            ([("a", "k")] + pairs, 3), (pairs[:1] + [("a", "k")] + pairs[1:], 3), (pairs + [("a", "k")], 5),
            (pairs + [("z", "k")], None), (pairs[:3] + [("z", "k")], 4),
            (pairs[::-1], 2),
        ]
        for changed, expected in rows:
            with self.subTest(changed=changed):
                self.assertEqual(repr(first_break(base, changed)), repr(expected))
                self.assertIs(is_history(base, changed), expected is None)

    def test_a_repeated_pair(self):
        base = Base(NAMES)
        for pairs in [[("m", "z"), ("m", "z")], [("m", "z"), ("a", "k"), ("m", "z")]]:
            self.assertIs(is_history(base, pairs), False)
            self.check_error(InvalidPairs(len(pairs) - 1), first_break, base, pairs)

    def test_no_pairs(self):
        for names in [["only"], NAMES]:
            self.assertIsNone(first_break(Base(names), []))
            self.assertIs(is_history(Base(names), []), True)

    def test_any_value(self):
        base = Base(NAMES)
        for value in no_lists() + [(("m", "z"),), base, SwapLog(base)]:
            with self.subTest(value=value):
                self.assertIs(is_history(base, value), False)
                self.check_error(InvalidPairs(0), first_break, base, value)
        for value in no_tuples() + no_names() + [("z", "m"), ("m",), ("m", "z", "a"), ("m", "m"), ["m", "z"]]:
            with self.subTest(value=value):
                self.assertIs(is_history(base, [value]), False)
                self.assertIs(is_history(base, [("m", "z"), value]), False)
                self.check_error(InvalidPairs(1), first_break, base, [("m", "z"), value])
                # An invalid list comes before a break.
                self.check_error(InvalidPairs(1), first_break, base, [("m", "a"), value])


class LogFromPairsTest(ErrorCase):
    def test_all_histories_of_four_items(self):
        base = Base(NAMES)
        for order in all_orders(NAMES):
            for word in all_words(NAMES, order):
                pairs = history_of(NAMES, word)
                log = log_from_pairs(base, pairs, reason="old")
                self.assertIs(type(log), SwapLog)
                self.assertEqual(log.entries(), [(index, "old") for index in word])
                self.assertEqual((log.base(), log.order(), pairs_of_log(log)), (base, order, pairs))

    def test_without_a_reason(self):
        log = log_from_pairs(Base(NAMES), [("a", "k"), ("m", "z")])
        self.assertEqual(repr(log.entries()), "[(2, ''), (0, '')]")
        self.assertEqual(log_from_pairs(Base(NAMES), []), SwapLog(Base(NAMES)))

    def test_broken_histories(self):
        base = Base(NAMES)
        rows = [
            ([("m", "a")], 1), ([("m", "z"), ("z", "a")], 2), ([("m", "z"), ("m", "a"), ("m", "k"), ("z", "k")], 4),
            ([("m", "z"), ("z", "a"), ("m", "a")], 2), ([("m", "k")], 1),
        ]
        for pairs, count in rows:
            with self.subTest(pairs=pairs):
                self.check_error(BrokenHistory(count), log_from_pairs, base, pairs)
                self.assertEqual(first_break(base, pairs), count)

    def test_invalid_pairs(self):
        for value in no_lists():
            self.check_error(InvalidPairs(0), log_from_pairs, Base(NAMES), value)
        for value in no_tuples() + [("z", "m"), ("m", "m"), ("m", "q"), ("m", "z", "a")]:
            self.check_error(InvalidPairs(1), log_from_pairs, Base(NAMES), [("m", "z"), value])

    def test_invalid_reason(self):
        for value in no_names():
            if value != "" or not isinstance(value, str):
                self.check_value(InvalidReason, value, log_from_pairs, Base(NAMES), [("m", "z")], reason=value)
                self.check_value(InvalidReason, value, log_from_pairs, Base(NAMES), [], reason=value)

    def test_the_sequence_of_the_errors(self):
        base = Base(NAMES)
        self.check_error(InvalidPairs(1), log_from_pairs, base, [("m", "a"), ("z", "m")], reason="Bad")
        self.check_error(InvalidPairs(1), log_from_pairs, base, [("m", "a"), ("z", "m")])
        self.check_error(InvalidReason("Bad"), log_from_pairs, base, [("m", "a")], reason="Bad")


if __name__ == "__main__":
    unittest.main()
