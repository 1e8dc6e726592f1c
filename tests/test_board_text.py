"""Tests of ordermerge.board_text."""

import random
import unittest

from ordermerge.bases import Base
from ordermerge.board_text import dump_board, load_board
from ordermerge.boards import Board
from ordermerge.errors import InvalidText
from tests.helpers import ErrorCase, forty_names, no_strings
from tests.models import BoardModel, call_on, random_operation
from tests.test_boards import EIGHT, NAMES, USERS, used_board
from tests.text_model import model_load, model_text, orders_of

TEXT = """base m z a k
users dan ann bo
swap ann 0
swap ann 1 urgent
swap ann 1
move bo k 0 late
move bo k 0
adopt dan a m z k
adopt dan a m z k same
remove bo 1
accept ann ok
accept ann
clear dan
clear dan
"""
LINES = TEXT.splitlines()
START = "base m z a k\nusers ann bo\n"


def random_board(chance, names, users, many):
    """Return a board after random operations, some of them undone, and its model."""
    board, model = Board(Base(names), users), BoardModel(names, users)
    for step in range(many):
        if chance.randrange(8) == 0 and model.operations:
            board.undo()
            model.undo(1)
        else:
            user = chance.choice(users)
            word, parts = random_operation(chance, names, model.entries(user))
            call_on(board, word, user, parts)
            model.perform(word, user, parts)
    return board, model


class DumpTest(unittest.TestCase):
    def test_each_kind_of_operation(self):
        self.assertEqual(dump_board(used_board()), TEXT)

    def test_new_boards(self):
        self.assertEqual(dump_board(Board(Base(["only"]), ["ann"])), "base only\nusers ann\n")
        names = forty_names()
        expected = "base " + " ".join(names) + "\nusers " + " ".join(EIGHT) + "\n"
        self.assertEqual(dump_board(Board(Base(names), EIGHT)), expected)

    def test_numbers_of_two_digits(self):
        board = Board(Base(forty_names()), ["ann"])
        board.swap("ann", 10)
        board.move("ann", forty_names()[0], 39, reason="x")
        board.remove_entry("ann", 20)
        lines = dump_board(board).splitlines()[2:]
        self.assertEqual(lines, ["swap ann 10", "move ann jd 39 x", "remove ann 20"])

    def test_undone_operations_are_left_out(self):
        board = used_board()
        board.undo(10)
        self.assertEqual(dump_board(board), "\n".join(LINES[:4]) + "\n")

    def test_the_board_does_not_change(self):
        board = used_board()
        dump_board(board)
        self.assertEqual((board, board.operations()), (used_board(), used_board().operations()))


class LoadTest(ErrorCase):
    def check_loaded(self, board):
        """Check that a board can be loaded from its text, and goes on alike."""
        text = dump_board(board)
        loaded = load_board(text)
        self.assertIsInstance(loaded, Board)
        self.assertEqual(loaded, board)
        self.assertEqual(repr(loaded.operations()), repr(board.operations()))
        self.assertEqual((loaded.base(), loaded.users()), (board.base(), board.users()))
        self.assertEqual(dump_board(loaded), text)
        other, user = board.clone(), board.users()[0]
        while True:
            self.assertEqual((loaded, loaded.operations()), (other, other.operations()))
            self.assertEqual(loaded.accept(user), other.accept(user))
            self.assertEqual(loaded, other)
            if len(other) == 1:
                break
            self.assertEqual(loaded.undo(2), other.undo(2))

    def test_the_used_board(self):
        self.check_loaded(used_board())

    def test_new_boards(self):
        for names in [["only"], NAMES, forty_names()]:
            for users in [["ann"], USERS, EIGHT]:
                self.check_loaded(Board(Base(names), users))

    def test_random_boards(self):
        chance = random.Random(81)
        for turn in range(40):
            names = chance.sample(["m", "z", "a", "k", "b", "swap"], chance.randrange(1, 7))
            users = chance.sample(EIGHT, chance.randrange(1, 9))
            board, model = random_board(chance, names, users, 20)
            self.assertEqual(dump_board(board), model_text(names, users, model.operations))
            self.check_loaded(board)

    def test_a_hundred_operations_of_eight_users_with_forty_items(self):
        chance, names = random.Random(82), forty_names()
        board = Board(Base(names), EIGHT)
        for step in range(100):
            user = chance.choice(EIGHT)
            if step % 10 == 0:
                order = board.order(user)
                board.adopt(user, order[:1] + order[2:20] + order[1:2] + order[20:], reason="abcdefgh")
            else:
                board.swap(user, chance.randrange(39), reason=chance.choice(["", "late"]))
        loaded = load_board(dump_board(board))
        self.assertEqual((loaded, loaded.operations()), (board, board.operations()))

    def test_words_of_operations_as_names(self):
        start = "base swap clear base\nusers move users\n"
        board = load_board(start + "move move swap 2 adopt\nadopt users base clear swap clear\n")
        self.assertEqual(board.operations(), [
            ("move", "move", "swap", 2, "adopt"), ("adopt", "users", ("base", "clear", "swap"), "clear"),
        ])
        self.check_loaded(board)


class InvalidTextTest(ErrorCase):
    def check_invalid(self, line, text):
        with self.subTest(text=text):
            self.check_error(InvalidText(line), load_board, text)

    def check_as_the_model(self, text):
        """Check that a text is accepted or refused as the document says."""
        expected = model_load(text)
        if isinstance(expected, int):
            self.check_invalid(expected, text)
        else:
            board = load_board(text)
            self.assertEqual(dump_board(board), text)
            self.assertEqual([board.order(user) for user in board.users()], orders_of(expected))

    def test_no_string(self):
        for value in no_strings() + [TEXT.encode(), [TEXT], LINES]:
            self.check_error(InvalidText(0), load_board, value)

    def test_a_text_that_ends_too_early(self):
        self.check_invalid(1, "")
        self.check_invalid(2, "base m z a k\n")
        self.assertEqual(load_board(START), Board(Base(NAMES), ["ann", "bo"]))

    def test_a_last_line_without_line_feed(self):
        self.check_invalid(1, "base m z a k")
        self.check_invalid(1, "b")
        self.check_invalid(2, "base m z a k\nusers ann bo")
        self.check_invalid(3, START + "swap ann 0")
        self.check_invalid(3, START + " ")
        self.check_invalid(4, START + "swap ann 0\nclear")
        self.check_invalid(3, START + "swap ann 9\nclear ann")

    def test_empty_lines(self):
        self.check_invalid(1, "\n")
        self.check_invalid(1, "\n" + START)
        self.check_invalid(2, "base m z a k\n\nusers ann bo\n")
        self.check_invalid(3, START + "\n")
        self.check_invalid(3, START + "\nswap ann 0\n")
        self.check_invalid(4, START + "swap ann 0\n\n")

    def test_lines_of_the_base(self):
        wrong = [
            "base", "base ", "base  m", "base m ", " base m", "Base m", "bases m", "m z", "base m m", "base M",
            "base m1",
            "base abcdefghi", "base m,z", "users ann", "basem", "base m\tz",
            "base " + " ".join(forty_names() + ["new"]),
        ]
        for line in wrong:
            self.check_invalid(1, line + "\nusers ann\n")
            self.check_invalid(1, line + "\n")
            self.check_invalid(1, line)

    def test_lines_of_the_users(self):
        wrong = [
            "users", "users ", "users  ann", "users ann ", " users ann", "user ann", "Users ann", "ann",
            "users ann ann",
            "users Ann", "users ann1", "base m", "users " + " ".join(EIGHT + ["nine"]), "swap ann 0",
        ]
        for line in wrong:
            self.check_invalid(2, "base m z a k\n" + line + "\nswap ann 0\n")
            self.check_invalid(2, "base m z a k\n" + line + "\n")

    def check_lines(self, lines):
        """Check that each line is refused as the fifth one, ahead of what is wrong behind it."""
        for line in lines:
            for behind in ["", "clear ann\n", "wrong\n", "wrong"]:
                self.check_invalid(5, START + "swap ann 0\nswap bo 2 why\n" + line + "\n" + behind)

    def test_words_and_their_number(self):
        self.check_lines([
            "jump ann", "Swap ann 1", "swap", "swap ann", "swap 1", "swap ann 1 x y", "swap ann x", "swap ann 1 1",
            "move ann k",
            "move ann 1", "move ann k 1 x y", "move ann 1 k", "adopt ann", "adopt ann m z a", "adopt ann m z a k x y",
            "accept",
            "accept ann x y", "accept ann 1", "remove ann", "remove ann 0 x", "remove ann 0 0", "remove 0", "clear",
            "clear ann x",
            "undo 1", "undo ann", "merged", "order ann", "log ann", "common", "needed", "arcs", "why m z", "base m",
            "users ann",
            "remove_entry ann 0", "clear_entries ann",
        ])

    def test_spaces(self):
        for line in LINES[2:]:
            words = line.split(" ")
            wrong = [" " + line, line + " ", line + "  ", "\t" + line]
            wrong += ["  ".join([" ".join(words[:at]), " ".join(words[at:])]) for at in range(1, len(words))]
            for text in wrong:
                self.check_invalid(3, "base m z a k\nusers dan ann bo\n" + text + "\n")

    def test_numbers(self):
        for number in ["00", "01", "-1", "+1", "-0", "1.", "0x1", "1_0", "one", "1a", "1,", "\t1", "10", "3" * 60]:
            self.check_lines([f"swap ann {number}", f"move ann k {number}", f"remove ann {number}"])

    def test_operations_that_raise_an_error(self):
        self.check_lines([
            "swap cy 0", "swap ann 3", "swap ann 0 Why", "swap ann 0 abcdefghi", "move cy k 0", "move ann q 0",
            "move ann k 4",
            "move ann k 0 X", "adopt cy m z a k", "adopt ann m z a a", "adopt ann m z a q", "adopt ann m z a k X",
            "accept cy",
            "accept ann X", "remove cy 0", "remove ann 1", "clear cy", "clear m",
        ])

    def test_each_beginning(self):
        for size in range(len(TEXT) + 1):
            self.check_as_the_model(TEXT[:size])

    def test_a_line_that_is_missing_or_stands_twice(self):
        for at in range(len(LINES)):
            self.check_as_the_model("".join([line + "\n" for line in LINES[:at] + LINES[at + 1:]]))
            self.check_as_the_model("".join([line + "\n" for line in LINES[:at + 1] + LINES[at:]]))

    def test_each_place_changed(self):
        for at in range(len(TEXT)):
            self.check_as_the_model(TEXT[:at] + TEXT[at + 1:])
            for sign in " \nam019-Z":
                self.check_as_the_model(TEXT[:at] + sign + TEXT[at + 1:])
                self.check_as_the_model(TEXT[:at] + sign + TEXT[at:])

    def test_lines_in_another_sequence(self):
        chance = random.Random(83)
        for turn in range(300):
            lines = LINES[:2] + chance.sample(LINES[2:], 12)
            self.check_as_the_model("".join([line + "\n" for line in lines]))


if __name__ == "__main__":
    unittest.main()
