"""Texts of boards: a line for the base, one for the users, and one for each operation."""

from ordermerge.bases import Base
from ordermerge.boards import Board
from ordermerge.command_lines import read_line, words_of_operation
from ordermerge.errors import InvalidBase, InvalidText, InvalidUsers, OrderError, UnknownItem, UnknownUser
from ordermerge.operations import ACTIONS, perform_operation


def dump_board(board):
    """Return the text of a board."""
    rows = [["base"] + board.base().names(), ["users"] + board.users()]
    rows = rows + [words_of_operation(operation) for operation in board.operations()]
    return "".join([" ".join(words) + "\n" for words in rows])


def names_after(word, line):
    """Return the words of a line behind its first one, or None if the first one is not the given one."""
    words = line.split(" ")
    return words[1:] if words[0] == word else None


def base_from(line):
    """Return the base that the first line of a text tells."""
    try:
        return Base(names_after("base", line))
    except InvalidBase:
        raise InvalidText(1) from None


def board_from(base, line):
    """Return a new board with the users that the second line of a text tells."""
    try:
        return Board(base, names_after("users", line))
    except InvalidUsers:
        raise InvalidText(2) from None


def perform_line(board, line, number):
    """Perform the operation that a line tells."""
    found = read_line(line, len(board.base()))
    if found is None or found[0] not in ACTIONS:
        raise InvalidText(number)
    word, (user, *others) = found
    try:
        perform_operation(board, word, user, others)
    except (OrderError, UnknownItem, UnknownUser):
        raise InvalidText(number) from None


def load_board(text):
    """Return the Board with this text."""
    if not isinstance(text, str):
        raise InvalidText(0)
    *lines, unended = text.split("\n")
    if not lines:
        raise InvalidText(1)
    base = base_from(lines[0])
    if len(lines) == 1:
        raise InvalidText(2)
    board = board_from(base, lines[1])
    for at, line in enumerate(lines[2:]):
        perform_line(board, line, at + 3)
    if unended:
        raise InvalidText(len(lines) + 1)
    return board
