"""A second, plain description of the texts of boards, against which the tests compare the package's."""

import re

from tests.log_model import replay
from tests.models import BoardModel

NAME = "[a-z]{1,8}"
NUMBER = "(?:0|[1-9][0-9]*)"
REASON = f"( {NAME})?"
LINES = [
    f"(swap) ({NAME}) ({NUMBER}){REASON}", f"(move) ({NAME}) ({NAME}) ({NUMBER}){REASON}",
    f"(adopt) ({NAME}) ((?: ?{NAME})+)", f"(accept) ({NAME}){REASON}", f"(remove) ({NAME}) ({NUMBER})",
    f"(clear) ({NAME})",
]


def model_line(operation):
    """Return the line of an operation of a board."""
    words = []
    for part in operation:
        words += list(part) if isinstance(part, tuple) else [str(part)]
    return " ".join(words).rstrip(" ")


def model_text(names, users, operations):
    """Return the text of a board."""
    lines = [" ".join(["base", *names]), " ".join(["users", *users])] + [model_line(row) for row in operations]
    return "".join([line + "\n" for line in lines])


def listed_names(word, line, most):
    """Return the names of a line for the base or the users, or None."""
    if line is None or not re.fullmatch(f"{word}( {NAME})+", line):
        return None
    names = line.split(" ")[1:]
    return names if len(set(names)) == len(names) <= most else None


def read_parts(model, line):
    """Return (word, user, parts) if a line has the form of an operation, or None."""
    for pattern in LINES:
        found = re.fullmatch(pattern, line)
        if found:
            word, user, *parts = found.groups()
            if word == "adopt":
                rest = parts[0].split(" ")
                order, more = rest[:len(model.names)], rest[len(model.names):]
                return (word, user, [order, *more, *[""] * (1 - len(more))]) if len(more) < 2 else None
            parts = [int(part) if re.fullmatch(NUMBER, part or "") else (part or "").lstrip() for part in parts]
            return word, user, parts
    return None


def is_possible(model, word, user, parts):
    """Tell whether an operation raises no error."""
    if user not in model.users:
        return False
    size, many = len(model.names), len(model.entries(user))
    if word == "swap":
        return parts[0] < size - 1
    if word == "move":
        return parts[0] in model.names and parts[1] < size
    if word == "adopt":
        return sorted(parts[0]) == sorted(model.names)
    return word != "remove" or parts[0] < many


def model_load(text):
    """Return the model of the board with this text, or the number of the line that is wrong."""
    *lines, rest = text.split("\n")
    names = listed_names("base", lines[0] if lines else None, 40)
    if names is None:
        return 1
    users = listed_names("users", lines[1] if len(lines) > 1 else None, 8)
    if users is None:
        return 2
    model = BoardModel(names, users)
    for number, line in enumerate(lines[2:], start=3):
        found = read_parts(model, line)
        if found is None or not is_possible(model, *found):
            return number
        model.perform(*found)
    return len(lines) + 1 if rest else model


def orders_of(model):
    return [replay(model.names, model.entries(user))[0] for user in model.users]
