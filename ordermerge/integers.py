"""What is accepted as an integer."""


def is_integer_from(value, low, high):
    """Tell for any value whether it is an integer from low to high; True and False are none."""
    return isinstance(value, int) and not isinstance(value, bool) and low <= value <= high
