"""Tests of ordermerge.moves."""

import os
import random
import unittest
from itertools import product

from ordermerge.bases import Base
from ordermerge.errors import DifferentOrders, InvalidCount, InvalidMove, InvalidWord, TooManyItems
from ordermerge.moves import (
    MOVE_ITEMS, apply_move, are_moves, is_word, moves_between, order_of_word, word_of,
)
from ordermerge.swap_log import SwapLog, log_from_entries
from tests.helpers import AlwaysEqual, ErrorCase, all_orders, all_words, forty_names, no_integers, no_lists, no_tuples

NAMES = ["m", "z", "a", "k"]
FIVE = ["m", "z", "a", "k", "b"]
SIX = ["f", "b", "e", "c", "a", "d"]


def no_words():
    """Return tuples (position, value) of values that are no words of the base m z a k."""
    rows = [(0, value) for value in no_lists() + [(0, 1), SwapLog(Base(NAMES))]]
    for value in no_integers() + [-1, 3, 4, 10 ** 30]:
        rows += [(0, [value]), (1, [0, value]), (2, [0, 1, value, 0]), (1, [2, value, None])]
    return rows + [
        (1, [0, 0]), (2, [0, 1, 1]), (3, [0, 1, 0, 0]), (3, [0, 1, 0, 1]), (3, [1, 0, 1, 0]), (2, [0, 2, 0]),
        (6, [0, 1, 0, 2, 1, 0, 0]), (1, [1, 1, 5]), (1, [1, 5, 1]),
    ]


def moved_by_the_text(word, kind, position):
    """Return the word after a move, or None if it is no move of the word."""
    part = word[position:]
    if kind == "commute" and len(part) >= 2 and abs(part[0] - part[1]) > 1:
        return word[:position] + [part[1], part[0]] + part[2:]
    if kind == "braid" and len(part) >= 3 and part[0] == part[2] and abs(part[0] - part[1]) == 1:
        return word[:position] + [part[1], part[0], part[1]] + part[3:]
    return None


def led_by_the_text(word, moves):
    """Return the word after several moves; each of them is one of the word at that moment."""
    for kind, position in moves:
        word = moved_by_the_text(word, kind, position)
        assert word is not None, (kind, position)
    return word


def chance_word(names, chance):
    """Return a word of the reversed order."""
    order, word = list(names), []
    while order != names[::-1]:
        index = chance.randrange(len(names) - 1)
        if names.index(order[index]) < names.index(order[index + 1]):
            order[index], order[index + 1] = order[index + 1], order[index]
            word.append(index)
    return word


class WordTest(ErrorCase):
    def test_all_lists_of_indexes_of_three_items(self):
        names = ["m", "z", "a"]
        words = [tuple(word) for order in all_orders(names) for word in all_words(names, order)]
        for length in range(5):
            for value in product(range(2), repeat=length):
                self.assertIs(is_word(Base(names), list(value)), value in words)

    def test_all_words_of_four_items(self):
        base = Base(NAMES)
        for order in all_orders(NAMES):
            for word in all_words(NAMES, order):
                self.assertIs(is_word(base, word), True)
                self.assertEqual(order_of_word(base, word), order)
                log = log_from_entries(base, [(index, "x") for index in word])
                self.assertEqual(repr(word_of(log)), repr(word))
                self.assertEqual(log.order(), order_of_word(base, word_of(log)))

    def test_no_words(self):
        base = Base(NAMES)
        for position, value in no_words():
            with self.subTest(value=value):
                self.assertIs(is_word(base, value), False)
                self.check_error(InvalidWord(position), order_of_word, base, value)

    def test_few_items(self):
        self.assertIs(is_word(Base(["only"]), []), True)
        self.assertIs(is_word(Base(["only"]), [0]), False)
        self.assertEqual(order_of_word(Base(["only"]), []), ["only"])
        self.assertEqual(order_of_word(Base(["y", "x"]), [0]), ["x", "y"])
        self.check_error(InvalidWord(0), order_of_word, Base(["only"]), [0])

    def test_forty_items(self):
        names = forty_names()
        word = [index for high in range(39) for index in range(high, -1, -1)]
        self.assertIs(is_word(Base(names), word), True)
        self.assertEqual(order_of_word(Base(names), word), names[::-1])
        self.check_error(InvalidWord(780), order_of_word, Base(names), word + [0])

    def test_word_of_an_empty_log(self):
        log = SwapLog(Base(NAMES))
        self.assertEqual(word_of(log), [])
        word_of(log).append(0)
        self.assertEqual((word_of(log), log.entries()), ([], []))


class ApplyMoveTest(ErrorCase):
    def test_both_kinds_at_each_position(self):
        base = Base(NAMES)
        seen = []
        for order in all_orders(NAMES):
            for word in all_words(NAMES, order):
                for kind, position in product(["commute", "braid"], range(len(word) + 2)):
                    expected, move = moved_by_the_text(word, kind, position), (kind, position)
                    with self.subTest(word=word, move=move):
                        if expected is None:
                            self.check_error(InvalidMove(move), apply_move, base, word, move)
                        else:
                            self.assertEqual(apply_move(base, word, move), expected)
                            self.assertEqual(order_of_word(base, expected), order)
                            self.assertEqual(apply_move(base, expected, move), word)
                            seen.append(move)
        # Each kind at the first and at the last position where it can stand.
        self.assertLessEqual({("commute", 0), ("commute", 4), ("braid", 0), ("braid", 3)}, set(seen))

    def test_moves_of_five_items(self):
        base = Base(FIVE)
        self.assertEqual(apply_move(base, [0, 3, 1], ("commute", 0)), [3, 0, 1])
        self.assertEqual(apply_move(base, [3, 0, 1], ("commute", 0)), [0, 3, 1])
        self.assertEqual(apply_move(base, [0, 2, 3, 2], ("braid", 1)), [0, 3, 2, 3])
        self.check_error(InvalidMove(("commute", 1)), apply_move, base, [0, 2, 3, 2], ("commute", 1))

    def test_no_moves(self):
        base, word = Base(NAMES), [0, 2, 1, 2]
        self.assertEqual(apply_move(base, word, ("commute", 0)), [2, 0, 1, 2])
        self.assertEqual(apply_move(base, word, ("braid", 1)), [0, 1, 2, 1])
        values = no_tuples() + [
            # Elements that differ by exactly 1, or by more, or are not i, j, i.
            ("commute", 1), ("commute", 2), ("braid", 0),
            # Positions that are too great, negative, or no integers.
            ("commute", 3), ("commute", 4), ("commute", 10 ** 30), ("braid", 2), ("braid", 3), ("braid", 4),
            ("commute", -1), ("commute", -4), ("braid", -3), ("braid", -1), ("commute", False), ("braid", True),
            ("commute", "0"), ("commute", None), ("braid", [1]), ("commute", AlwaysEqual()),
            # Other kinds, lists in place of tuples, tuples of another length.
            ("Commute", 0), ("commute ", 0), ("", 0), ("swap", 0), (None, 0), (0, "commute"), (b"commute", 0),
            (AlwaysEqual(), 0), (["commute"], 0), ["commute", 0], ["braid", 1], (), ("commute",), ("commute", 0, 0),
            ("braid", 1, 2), (("commute", 0),), "commute", ("commute", (0,)), {"commute": 0},
        ]
        for value in values:
            with self.subTest(value=value):
                self.check_value(InvalidMove, value, apply_move, base, word, value)
                self.assertIs(are_moves(base, word, [2, 0, 1, 2], [value]), False)
                self.assertIs(are_moves(base, word, [0, 1, 2, 1], [value]), False)

    def test_words_without_moves(self):
        for word in [[], [1], [0, 1], [0, 1, 2]]:
            for move in product(["commute", "braid"], range(4)):
                self.check_error(InvalidMove(move), apply_move, Base(NAMES), word, move)

    def test_the_word_does_not_change_and_the_result_is_new(self):
        word = [0, 2, 1, 2]
        for move in [("commute", 0), ("braid", 1)]:
            result = apply_move(Base(NAMES), word, move)
            result.clear()
            self.assertEqual(word, [0, 2, 1, 2])

    def test_an_invalid_word_comes_first(self):
        for position, value in no_words():
            self.check_error(InvalidWord(position), apply_move, Base(NAMES), value, None)
            self.check_error(InvalidWord(position), apply_move, Base(NAMES), value, ("commute", 0))


class MovesBetweenTest(ErrorCase):
    def check_between(self, base, first, second, **named):
        moves = moves_between(base, first, second, **named)
        self.assertIs(type(moves), list)
        self.assertEqual(led_by_the_text(first, moves), second)
        self.assertIs(are_moves(base, first, second, moves), True)
        return moves

    def test_limit(self):
        self.assertEqual(repr(MOVE_ITEMS), "5")

    def test_any_two_words_of_up_to_four_items(self):
        for names in [["m"], ["m", "z"], ["m", "z", "a"], NAMES]:
            for order in all_orders(names):
                words = all_words(names, order)
                for first, second in product(words, repeat=2):
                    self.check_between(Base(names), first, second)

    def test_words_of_five_items(self):
        base = Base(FIVE)
        chance = random.Random(7)
        for order in all_orders(FIVE):
            words = all_words(FIVE, order)
            for first in words:
                second = chance.choice(words)
                self.assertEqual(led_by_the_text(first, moves_between(base, first, second)), second)

    @unittest.skipUnless(os.environ.get("ALL_WORDS"), "takes minutes; .ci/run sets ALL_WORDS=1")
    def test_any_two_words_of_five_items(self):
        base = Base(FIVE)
        for order in all_orders(FIVE):
            for first, second in product(all_words(FIVE, order), repeat=2):
                self.assertEqual(led_by_the_text(first, moves_between(base, first, second)), second)

    def test_words_of_six_items(self):
        base = Base(SIX)
        chance = random.Random(8)
        for turn in range(20):
            first, second = chance_word(SIX, chance), chance_word(SIX, chance)
            self.check_between(base, first, second, limit=6)

    def test_equal_words(self):
        for word in [[], [1], [0, 1, 0, 2, 1, 0]]:
            moves = self.check_between(Base(NAMES), word, list(word))
            self.assertEqual(led_by_the_text(word, moves), word)
            self.assertIs(are_moves(Base(NAMES), word, word, []), True)

    def test_moves_are_tuples_of_a_kind_and_a_position(self):
        self.assertEqual(repr(moves_between(Base(NAMES), [0, 2], [2, 0])), "[('commute', 0)]")
        self.assertEqual(repr(moves_between(Base(NAMES), [1, 2, 1], [2, 1, 2])), "[('braid', 0)]")

    def test_limits(self):
        for count in range(1, 7):
            base = Base(SIX[:count])
            for limit in range(1, 7):
                if count <= limit:
                    self.assertEqual(moves_between(base, [], [], limit=limit), [])
                else:
                    self.check_error(TooManyItems(limit), moves_between, base, [], [], limit=limit)
        self.assertEqual(moves_between(Base(FIVE), [0], [0]), [])
        self.check_error(TooManyItems(5), moves_between, Base(SIX), [0], [0])
        self.check_error(TooManyItems(6), moves_between, Base(SIX + ["g"]), [], [], limit=6)

    def test_invalid_limits(self):
        for value in no_integers() + [0, 7, -1, 40, 10 ** 30]:
            with self.subTest(value=value):
                self.check_value(InvalidCount, value, moves_between, Base(["m"]), [], [], limit=value)
                self.check_value(InvalidCount, value, moves_between, Base(SIX), [0], [1], limit=value)

    def test_different_orders(self):
        for first, second in [([0], [1]), ([], [0]), ([0], []), ([0, 1], [1, 0]), ([0, 1, 0], [0, 1])]:
            self.check_error(DifferentOrders("other"), moves_between, Base(NAMES), first, second)
            self.check_error(DifferentOrders("other"), moves_between, Base(NAMES), first, second, limit=4)

    def test_invalid_words(self):
        for position, value in no_words():
            self.check_error(InvalidWord(position), moves_between, Base(NAMES), value, [0])
            self.check_error(InvalidWord(position), moves_between, Base(NAMES), [0], value)

    def test_the_sequence_of_the_errors(self):
        base = Base(NAMES)
        self.check_error(InvalidWord(1), moves_between, base, [0, 0], [0, 1, 1], limit=9)
        self.check_error(InvalidWord(2), moves_between, base, [0, 1, 1], [0, 0], limit=9)
        self.check_error(InvalidWord(2), moves_between, base, [0], [0, 1, 1], limit=9)
        self.check_error(InvalidWord(2), moves_between, base, [0], [0, 1, 1], limit=2)
        self.check_error(InvalidCount(9), moves_between, base, [0], [1], limit=9)
        self.check_error(InvalidCount(True), moves_between, base, [0], [0], limit=True)
        self.check_error(TooManyItems(2), moves_between, base, [0], [1], limit=2)
        with self.assertRaises(TypeError):
            moves_between(base, [0], [0], 5)


class AreMovesTest(ErrorCase):
    def test_changed_lists(self):
        base, first, second = Base(NAMES), [0, 1, 0, 2, 1, 0], [2, 1, 2, 0, 1, 2]
        moves = moves_between(base, first, second)
        self.assertIs(are_moves(base, first, second, moves), True)
        self.assertIs(are_moves(base, first, second, moves[:-1]), False)
        self.assertIs(are_moves(base, first, second, moves[1:]), False)
        self.assertIs(are_moves(base, first, second, []), False)
        self.assertIs(are_moves(base, second, first, moves[::-1]), True)
        self.assertIs(are_moves(base, first, second, moves + [("braid", 9)]), False)
        self.assertIs(are_moves(base, first, second, [("commute", 0)] + moves), False)
        for at, move in enumerate(moves):
            for wrong in [list(move), (move[0], -1), (move[0],), None, ("other", move[1]), (move[0], 10)]:
                self.assertIs(are_moves(base, first, second, moves[:at] + [wrong] + moves[at + 1:]), False)
            # There and back again is a longer way.
            longer = moves[:at] + [move, move] + moves[at:]
            self.assertIs(are_moves(base, first, second, longer), True)

    def test_any_value(self):
        base = Base(NAMES)
        for value in no_lists() + [(("commute", 0),), "commute", {("commute", 0): 0}]:
            with self.subTest(value=value):
                self.assertIs(are_moves(base, [0, 2], [2, 0], value), False)
                self.assertIs(are_moves(base, [0], [0], value), False)

    def test_words_of_different_orders(self):
        self.assertIs(are_moves(Base(NAMES), [0, 2], [0, 1], []), False)
        self.assertIs(are_moves(Base(NAMES), [0, 2], [0, 1], [("commute", 0)]), False)

    def test_any_number_of_items(self):
        self.assertIs(are_moves(Base(forty_names()), [0, 38], [38, 0], [("commute", 0)]), True)
        self.assertIs(are_moves(Base(["only"]), [], [], []), True)

    def test_invalid_words(self):
        for position, value in no_words():
            self.check_error(InvalidWord(position), are_moves, Base(NAMES), value, [0], [])
            self.check_error(InvalidWord(position), are_moves, Base(NAMES), [0], value, None)
        self.check_error(InvalidWord(1), are_moves, Base(NAMES), [0, 0], [0, 1, 1], [])
        self.check_error(InvalidWord(2), are_moves, Base(NAMES), [0, 1, 1], [0, 0], [])


if __name__ == "__main__":
    unittest.main()
