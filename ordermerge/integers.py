"""What is accepted as an integer and as a count."""


def is_integer(value):
    """Tell for any value whether it is an integer; True and False are none."""
    return isinstance(value, int) and not isinstance(value, bool)


def is_count(value):
    """Tell for any value whether it is an integer that is at least 0."""
    return is_integer(value) and value >= 0


def is_integer_from(value, low, high):
    """Tell for any value whether it is an integer from low to high."""
    return is_integer(value) and low <= value <= high
