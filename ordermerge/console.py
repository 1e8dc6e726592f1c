"""A console: commands that are strings, performed on a board."""

from ordermerge.arcs import arcs_of
from ordermerge.boards import Board
from ordermerge.command_lines import read_line
from ordermerge.errors import InvalidCommand
from ordermerge.operations import perform_operation


def tell_swap(cancelled):
    return "added" if cancelled is None else f"cancelled {cancelled}"


def tell_numbers(numbers):
    return " ".join([str(number) for number in numbers])


def tell_nothing(result):
    return "ok"


# How the result of an operation is told.
TELLERS = {
    "swap": tell_swap,
    "move": tell_numbers,
    "adopt": tell_numbers,
    "accept": tell_numbers,
    "remove": tell_numbers,
    "clear": tell_nothing,
}


def answer_merged(board):
    return " ".join(board.merged())


def answer_common(board):
    return " ".join(board.common())


def answer_order(board, user):
    return " ".join(board.order(user))


def answer_log(board, user):
    return " ".join([f"{index}:{reason}" for index, reason in board.entries(user)])


def answer_why(board, first, second):
    chain = board.explain(first, second)
    if chain is None:
        return "-"
    return " ".join([":".join(link) for link in chain])


def answer_needed(board):
    return " ".join(board.needed_users())


def answer_arcs(board):
    arcs = arcs_of(board.base(), board.merged())
    return " ".join([":".join([lower, upper, *passed]) for lower, upper, passed in arcs])


def answer_undo(board, count):
    return str(board.undo(count))


ANSWERS = {
    "merged": answer_merged,
    "common": answer_common,
    "order": answer_order,
    "log": answer_log,
    "why": answer_why,
    "needed": answer_needed,
    "arcs": answer_arcs,
    "undo": answer_undo,
}


def read_command(base, command):
    """Return (first word, parts) of a command, or raise InvalidCommand."""
    if not isinstance(command, str) or "\n" in command:
        raise InvalidCommand("a command is one line of text")
    found = read_line(command, len(base))
    if found is None:
        raise InvalidCommand("there is no such command")
    return found


def execute_on(board, command):
    """Perform a command on a board. Return its result, a string."""
    word, parts = read_command(board.base(), command)
    if word in ANSWERS:
        answer = ANSWERS[word]
        return answer(board, *parts)
    user, *others = parts
    tell = TELLERS[word]
    return tell(perform_operation(board, word, user, others))


class Console:
    """A board on which commands are performed, and the history of the runs of several commands."""

    def __init__(self, base, users):
        self.held = Board(base, users)
        self.runs = []

    def execute(self, command):
        """Perform a command. Return its result, a string."""
        return execute_on(self.held, command)

    def run(self, commands):
        """Execute a list of commands, all of them or, if one raises an error, none. Return the list of the results."""
        if not isinstance(commands, list):
            raise InvalidCommand("a list of commands is required")
        self.runs.append(("begin", len(commands)))
        trial = self.held.clone()
        results = []
        finished = 0
        try:
            for command in commands:
                results.append(execute_on(trial, command))
                finished += 1
        finally:
            self.runs.append(("end", finished))
        self.held = trial
        return results

    def history(self):
        """Return the history of runs: for each one ("begin", commands) and ("end", commands with a result)."""
        return list(self.runs)

    def board(self):
        """Return an independent copy of the board."""
        return self.held.clone()
