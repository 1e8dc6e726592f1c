"""Tests of Console: commands, their results and errors, runs and their history."""

import random
import unittest

from ordermerge.arcs import arcs_of
from ordermerge.bases import Base
from ordermerge.board_text import dump_board
from ordermerge.boards import Board
from ordermerge.console import Console
from ordermerge.errors import (
    InvalidCommand, InvalidCount, InvalidIndex, InvalidOrder, InvalidPosition, InvalidReason, InvalidUsers, SameItem,
    UnknownItem, UnknownUser,
)
from tests.helpers import ErrorCase, forty_names, no_lists, no_names, no_strings
from tests.models import BoardModel, as_recorded, call_on, random_operation
from tests.test_boards import EIGHT, NAMES, USERS
from tests.text_model import model_line

QUERIES = ["merged", "common", "needed", "arcs"]


def state_of(console):
    """Return all that a console tells of its state."""
    return repr((dump_board(console.board()), console.history()))


def used_console():
    console = Console(Base(NAMES), ["ann", "bo"])
    console.run(["swap ann 0", "swap ann 1 urgent"])
    console.execute("swap bo 2")
    return console


class ResultsTest(unittest.TestCase):
    def check_results(self, rows, console=None):
        console = console or Console(Base(NAMES), ["ann", "bo"])
        for command, result in rows:
            with self.subTest(command=command):
                self.assertEqual(console.execute(command), result)
        return console

    def test_a_new_console(self):
        self.check_results([
            ("merged", "m z a k"), ("common", "m z a k"), ("order ann", "m z a k"), ("log ann", ""), ("why m z", "-"),
            ("needed", ""), ("arcs", ""), ("undo 0", "0"),
        ])
        rows = [("merged", "only"), ("adopt ann only", "0 0"), ("adopt ann only x", "0 0"), ("undo 2", "0")]
        self.check_results(rows, Console(Base(["only"]), ["ann"]))

    def test_swaps(self):
        console = self.check_results([
            ("swap ann 0", "added"), ("swap ann 1 urgent", "added"), ("swap ann 0", "added"),
            ("log ann", "0: 1:urgent 0:"), ("order ann", "a z m k"), ("swap ann 1", "cancelled 0"),
            ("log ann", "1:urgent 0:"), ("swap ann 1 why", "added"), ("swap ann 1", "cancelled 2"),
        ])
        self.assertEqual(console.board().operations()[-2:], [("swap", "ann", 1, "why"), ("swap", "ann", 1, "")])

    def test_moves_adopted_orders_and_accepting(self):
        self.check_results([
            ("move bo k 0 far", "3 0"), ("move bo k 2", "0 2"), ("move bo k 2", "0 0"), ("log bo", "2:far"),
            ("adopt ann z m a k", "1 0"), ("adopt ann m a z k why", "1 1"), ("order ann", "m a z k"),
            ("log ann", "1:why"),
            ("merged", "m k a z"), ("accept ann ok", "2 0"), ("accept bo", "2 0"), ("accept bo", "0 0"),
            ("log ann", "1:why 2:ok 1:ok"), ("log bo", "2:far 1: 2:"),
        ])

    def test_removing_and_clearing(self):
        self.check_results([
            ("swap ann 0", "added"), ("swap ann 2", "added"), ("remove ann 0", "0"), ("log ann", "2:"),
            ("clear ann", "ok"),
            ("log ann", ""), ("clear ann", "ok"), ("adopt ann k a z m", "6 0"), ("log ann", "0: 1: 0: 2: 1: 0:"),
            ("remove ann 1", "0 1 2"), ("log ann", "2: 1: 0:"), ("undo 2", "5"),
        ])

    def test_queries(self):
        self.check_results([
            ("swap ann 0", "added"), ("move ann m 2 x", "1 0"), ("swap bo 2", "added"), ("why m k", "m:a:ann a:k:bo"),
            ("why k m", "m:a:ann a:k:bo"), ("why z m", "m:z:ann"), ("why z k", "-"), ("merged", "z k a m"),
            ("common", "m z a k"), ("needed", "ann bo"), ("arcs", "m:a:z a:k"), ("accept bo", "3 0"), ("needed", "bo"),
            ("undo 1", "3"), ("undo 3", "0"), ("arcs", ""),
        ])

    def test_arcs_that_pass_several_items(self):
        self.check_results([("adopt ann z a k m", "3 0"), ("arcs", "m:k:z:a"), ("adopt bo k m z a", "3 0"),
                            ("merged", "k z a m"), ("arcs", "m:a:z z:k")])

    def expected(self, board, command):
        """Return the result of a query, read off a board."""
        word, *args = command.split(" ")
        if word in ["merged", "common"]:
            return " ".join(getattr(board, word)())
        if word == "order":
            return " ".join(board.order(*args))
        if word == "log":
            return " ".join([str(index) + ":" + reason for index, reason in board.entries(*args)])
        if word == "why":
            return "-" if board.explain(*args) is None else " ".join([":".join(row) for row in board.explain(*args)])
        if word == "needed":
            return " ".join(board.needed_users())
        arcs = arcs_of(board.base(), board.merged())
        return " ".join([":".join([lower, upper] + list(passed)) for lower, upper, passed in arcs])

    def test_many_commands_against_a_board(self):
        chance = random.Random(91)
        for turn in range(25):
            names = chance.sample(["m", "z", "a", "k", "swap"], chance.randrange(2, 6))
            users = chance.sample(EIGHT, chance.randrange(1, 5))
            console, board, model = Console(Base(names), users), Board(Base(names), users), BoardModel(names, users)
            for step in range(25):
                user = chance.choice(users)
                if chance.randrange(6) == 0:
                    count = chance.randrange(len(board) + 1)
                    self.assertEqual(console.execute(f"undo {count}"), str(board.undo(count)))
                    model.undo(count)
                else:
                    word, parts = random_operation(chance, names, model.entries(user))
                    result = call_on(board, word, user, parts)
                    model.perform(word, user, parts)
                    told = console.execute(model_line(as_recorded(word, user, parts)))
                    if word == "swap":
                        self.assertEqual(told, "added" if result is None else f"cancelled {result}")
                    elif word == "clear":
                        self.assertEqual(told, "ok")
                    else:
                        self.assertEqual(told, " ".join([str(number) for number in result]))
                pair = " ".join(chance.sample(names, 2))
                for command in QUERIES + [f"order {user}", f"log {user}", f"why {pair}"]:
                    self.assertEqual(console.execute(command), self.expected(board, command))
                self.assertEqual((console.board(), console.board().operations()), (board, board.operations()))
            self.assertEqual(console.history(), [])


class CreationTest(ErrorCase):
    def test_invalid_users(self):
        for value in no_lists():
            self.check_error(InvalidUsers("list", 0), Console, Base(NAMES), value)
        for value in no_names():
            self.check_error(InvalidUsers("name", 1), Console, Base(NAMES), ["ann", value])
        self.check_error(InvalidUsers("duplicate", 2), Console, Base(NAMES), ["ann", "bo", "ann"])
        self.check_error(InvalidUsers("count", 0), Console, Base(NAMES), [])
        self.check_error(InvalidUsers("count", 0), Console, Base(NAMES), EIGHT + ["nine"])

    def test_later_changes_of_the_given_list(self):
        users = ["ann", "bo"]
        console = Console(Base(NAMES), users)
        users.clear()
        self.assertEqual(console.board().users(), ["ann", "bo"])

    def test_a_new_console(self):
        console = Console(Base(NAMES), USERS)
        self.assertEqual((console.board(), console.history()), (Board(Base(NAMES), USERS), []))

    def test_the_board_is_a_copy(self):
        console = used_console()
        before = state_of(console)
        board = console.board()
        board.swap("ann", 0)
        board.undo(4)
        self.assertEqual(state_of(console), before)
        console.execute("clear ann")
        self.assertEqual((len(board), len(console.board())), (0, 4))

    def test_consoles_are_independent(self):
        one, two = used_console(), used_console()
        before = state_of(two)
        one.run(["undo 2", "clear bo"])
        self.assertEqual(state_of(two), before)


class CommandErrorsTest(ErrorCase):
    def check_invalid(self, command):
        console = used_console()
        before = state_of(console)
        with self.subTest(command=command):
            self.error_of(InvalidCommand, console.execute, command)
            self.assertEqual(state_of(console), before)

    def check_board_error(self, expected, command):
        console = used_console()
        before = state_of(console)
        with self.subTest(command=command):
            self.check_error(expected, console.execute, command)
            self.assertEqual(state_of(console), before)

    def test_no_string(self):
        for value in no_strings() + [["merged"], ("merged",), b"merged"]:
            self.check_invalid(value)

    def test_line_feeds_and_spaces(self):
        commands = ["merged", "swap ann 0", "move ann m 1 x", "adopt ann m z a k", "log ann", "why m z", "undo 1"]
        for command in commands + ["clear ann"]:
            words = command.split(" ")
            wrong = [command + "\n", "\n" + command, command + " ", " " + command, command + "  ", command + "\nmerged"]
            for at in range(1, len(words)):
                before, behind = " ".join(words[:at]), " ".join(words[at:])
                wrong += [before + sign + behind for sign in ["  ", "\n", " \n", "\t", "", ":"]]
            for text in wrong:
                self.check_invalid(text)
        for text in ["", " ", "  ", "\n"]:
            self.check_invalid(text)

    def test_words(self):
        for text in [
            "jump", "Merged", "merge", "mergeds", "ann", "0", "swaps ann 0", "SWAP ann 0", "remove_entry ann 0",
            "clear_entries ann", "base m", "users ann", "explain m z", "entries ann", "supporters", "needed_users",
            "operations", "history", "board", "run", "execute merged",
        ]:
            self.check_invalid(text)

    def test_numbers_of_words(self):
        for text in [
            "swap", "swap ann", "swap ann 0 x y", "move", "move ann", "move ann m", "move ann m 0 x y", "adopt",
            "adopt ann",
            "adopt ann m z a", "adopt ann m z a k x y", "accept", "accept ann x y", "remove", "remove ann",
            "remove ann 0 x",
            "clear", "clear ann x", "merged ann", "common ann", "order", "order ann bo", "log", "log ann bo", "why",
            "why m",
            "why m z a", "needed ann", "arcs ann", "undo", "undo 1 1",
        ]:
            self.check_invalid(text)

    def test_numbers(self):
        for number in ["00", "01", "-1", "+1", "-0", " 1", "1.", "0x1", "1_0", "one", "1a", ""]:
            for command in [
                "swap ann {}", "swap cy {}", "swap ann {} x", "move ann m {}", "move ann q {}", "move ann m {} X",
                "remove ann {}", "remove cy {}", "undo {}",
            ]:
                self.check_invalid(command.format(number))
        self.check_invalid("swap 0 ann")
        self.check_invalid("move ann 0 m")

    def test_users(self):
        for user in ["cy", "m", "0", "00", "Ann", "ann,", "ann:bo", "abcdefghijkl", "-", "*"]:
            for command in [
                "swap {} 0", "swap {} 99 X", "move {} m 0", "move {} q 99 X", "adopt {} m z a k", "adopt {} q q q q X",
                "accept {}", "accept {} X", "remove {} 0", "remove {} 99", "clear {}", "order {}", "log {}",
            ]:
                self.check_board_error(UnknownUser(user), command.format(user))

    def test_items(self):
        for item in ["q", "ann", "0", "-1", "M", "abcdefghijkl", "m,"]:
            self.check_board_error(UnknownItem(item), f"move ann {item} 99 X")
            self.check_board_error(UnknownItem(item), f"why {item} {item}")
            self.check_board_error(UnknownItem(item), f"why m {item}")
            self.check_board_error(UnknownItem(item), f"why {item} other")
            self.check_board_error(InvalidOrder(2), f"adopt ann m z {item} k")
            self.check_board_error(InvalidOrder(0), f"adopt ann {item} m m m X")
        self.check_board_error(InvalidOrder(3), "adopt ann m z a m")
        self.check_board_error(SameItem("m"), "why m m")

    def test_reasons(self):
        for reason in ["X", "0", "abcdefghi", "a1", "-", "a:b", "x,"]:
            commands = ["swap ann 0 {}", "swap bo 2 {}", "move ann m 0 {}", "adopt ann m z a k {}", "accept ann {}"]
            for command in commands:
                self.check_board_error(InvalidReason(reason), command.format(reason))

    def test_numbers_that_are_too_great(self):
        for number in [3, 4, 10 ** 59]:
            self.check_board_error(InvalidIndex(number), f"swap ann {number} X")
        for number in [4, 10 ** 59]:
            self.check_board_error(InvalidIndex(number), f"move ann m {number} X")
            self.check_board_error(InvalidPosition(number), f"remove ann {number}")
            self.check_board_error(InvalidCount(number), f"undo {number}")

    def test_adopt_of_another_base(self):
        console = Console(Base(["only"]), ["ann"])
        for command in ["adopt ann", "adopt ann only x y"]:
            self.error_of(InvalidCommand, console.execute, command)
        self.check_error(InvalidOrder(0), console.execute, "adopt ann other x")
        console = Console(Base(forty_names()), ["ann"])
        self.assertEqual(console.execute("adopt ann " + " ".join(forty_names()) + " x"), "0 0")


class RunTest(ErrorCase):
    def test_results_and_history(self):
        console = Console(Base(NAMES), ["ann", "bo"])
        commands = ["swap ann 0", "merged", "swap ann 0", "log ann", "clear bo"]
        self.assertEqual(console.run(commands), ["added", "z m a k", "cancelled 0", "", "ok"])
        self.assertEqual(commands, ["swap ann 0", "merged", "swap ann 0", "log ann", "clear bo"])
        self.assertEqual(console.run([]), [])
        self.assertEqual(console.run(["undo 2", "arcs"]), ["1", "m:z"])
        expected = [("begin", 5), ("end", 5), ("begin", 0), ("end", 0), ("begin", 2), ("end", 2)]
        self.assertEqual(repr(console.history()), repr(expected))
        self.assertEqual(console.board().operations(), [("swap", "ann", 0, "")])

    def test_an_error_takes_everything_back(self):
        rows = [
            (UnknownUser("cy"), ["swap ann 2", "move bo m 3", "swap cy 0", "clear ann"], 2),
            (UnknownItem("q"), ["undo 3", "swap bo 0 x", "why m q"], 2),
            (InvalidCount(4), ["undo 4", "merged"], 0),
            (InvalidCount(1), ["undo 3", "undo 1"], 1),
            (InvalidPosition(0), ["clear ann", "remove ann 0"], 1),
            (InvalidOrder(0), ["accept bo", "adopt ann q q q q"], 1),
            (InvalidReason("X"), ["accept bo X"], 0),
            (InvalidIndex(3), ["undo 1", "adopt bo k a z m", "clear ann", "swap bo 3"], 3),
            (SameItem("m"), ["clear ann", "why m m", "wrong"], 1),
        ]
        for expected, commands, many in rows:
            console = used_console()
            text, history = dump_board(console.board()), console.history()
            self.check_error(expected, console.run, commands)
            self.assertEqual(dump_board(console.board()), text)
            self.assertEqual(console.board().undo(3), 0)
            self.assertEqual(console.history(), history + [("begin", len(commands)), ("end", many)])
            # It goes on as if the run had not been.
            self.assertEqual([console.execute("undo 1"), console.run(["log ann"])], ["2", ["0: 1:urgent"]])

    def test_commands_that_are_none(self):
        for value in no_strings() + ["", "jump", "swap ann", "merged\n"]:
            console = used_console()
            text = dump_board(console.board())
            self.error_of(InvalidCommand, console.run, ["clear ann", "merged", value, "clear bo"])
            self.assertEqual(dump_board(console.board()), text)
            self.assertEqual(console.history(), [("begin", 2), ("end", 2), ("begin", 4), ("end", 2)])

    def test_no_list(self):
        for value in no_lists() + ["merged", ("merged",), {"merged": 1}]:
            console = used_console()
            before = state_of(console)
            self.error_of(InvalidCommand, console.run, value)
            self.assertEqual(state_of(console), before)

    def test_execute_alone_is_not_recorded(self):
        console = Console(Base(NAMES), ["ann"])
        console.execute("swap ann 0")
        self.error_of(InvalidCommand, console.execute, "jump")
        self.assertEqual(console.history(), [])

    def test_results_are_new(self):
        console = used_console()
        before = state_of(console)
        console.history().clear()
        console.history().append(None)
        self.assertEqual(state_of(console), before)

    def test_a_run_is_like_its_commands_one_by_one(self):
        chance = random.Random(92)
        for turn in range(20):
            one, two = Console(Base(NAMES), ["ann", "bo"]), Console(Base(NAMES), ["ann", "bo"])
            model = BoardModel(NAMES, ["ann", "bo"])
            for step in range(5):
                commands = []
                for at in range(chance.randrange(6)):
                    user = chance.choice(["ann", "bo"])
                    word, parts = random_operation(chance, NAMES, model.entries(user))
                    model.perform(word, user, parts)
                    commands += [model_line(as_recorded(word, user, parts)), chance.choice(QUERIES)]
                self.assertEqual(one.run(commands), [two.execute(command) for command in commands])
                self.assertEqual(dump_board(one.board()), dump_board(two.board()))


if __name__ == "__main__":
    unittest.main()
