"""Lines of words, separated by one space, as they stand in the text of a board and are passed to a console."""

from ordermerge.swap_log import NO_REASON

# The first words of all lines, each with the kinds of the parts that follow it. A reason may be left out.
FORMS = {
    "swap": ("word", "number", "reason"),
    "move": ("word", "word", "number", "reason"),
    "adopt": ("word", "order", "reason"),
    "accept": ("word", "reason"),
    "remove": ("word", "number"),
    "clear": ("word",),
    "merged": (),
    "common": (),
    "order": ("word",),
    "log": ("word",),
    "why": ("word", "word"),
    "needed": (),
    "arcs": (),
    "undo": ("number",),
}


def words_of_operation(operation):
    """Return the words of an operation of a board; an empty reason is left out."""
    words = []
    for part in operation:
        if isinstance(part, tuple):
            words = words + list(part)
        elif part != NO_REASON:
            words.append(str(part))
    return words


def is_decimal(word):
    """Tell whether a word, which is not empty, is a number in decimal without sign and without leading zeros."""
    return word == "0" or (word[0] != "0" and all(["0" <= sign <= "9" for sign in word]))


def part_of(kind, words):
    """Return the part of this kind that the words tell, or None if it is to be a number and they tell none."""
    if kind == "order":
        return words
    if kind == "number":
        return int(words[0]) if is_decimal(words[0]) else None
    return words[0]


def parts_of(form, words, size):
    """Return the parts that the words tell by this form, orders being of this size, or None if they tell none."""
    parts = []
    rest = words
    for kind in form:
        if kind == "reason" and not rest:
            rest = [NO_REASON]
        many = size if kind == "order" else 1
        if len(rest) < many:
            return None
        parts.append(part_of(kind, rest[:many]))
        rest = rest[many:]
    if rest or None in parts:
        return None
    return parts


def read_line(line, size):
    """Return (first word, parts) of a line for a base of this size, or None if the line has none of the forms."""
    words = line.split(" ")
    # A superfluous space makes an empty word.
    if "" in words or words[0] not in FORMS:
        return None
    parts = parts_of(FORMS[words[0]], words[1:], size)
    if parts is None:
        return None
    return (words[0], parts)
