"""The errors of the package. The attributes of an error are the arguments that it is created with."""


class OrderError(ValueError):
    """A value does not have the required form; created with a message."""


class InvalidBase(OrderError):
    """A value is not a list of items that makes a base."""

    def __init__(self, problem, position):
        self.problem = problem
        self.position = position


class InvalidOrder(OrderError):
    """A value is not an order of the base."""

    def __init__(self, position):
        self.position = position


class InvalidIndex(OrderError):
    """A value is not an index of the order."""

    def __init__(self, value):
        self.value = value


class InvalidReason(OrderError):
    """A value is neither a name nor the empty string."""

    def __init__(self, value):
        self.value = value


class InvalidPosition(OrderError):
    """A value is not the position of an entry."""

    def __init__(self, value):
        self.value = value


class InvalidCount(OrderError):
    """A value is not a count within its limits."""

    def __init__(self, value):
        self.value = value


class InvalidPairs(OrderError):
    """A value is not a list of different pairs."""

    def __init__(self, position):
        self.position = position


class InvalidEntries(OrderError):
    """A value is not a list of the entries of a log."""

    def __init__(self, position):
        self.position = position


class InvalidOrders(OrderError):
    """A value is not a list of orders."""

    def __init__(self, position):
        self.position = position


class InvalidArcs(OrderError):
    """A value is not an arc or a list of arcs."""

    def __init__(self, position):
        self.position = position


class InvalidWord(OrderError):
    """A value is not a word."""

    def __init__(self, position):
        self.position = position


class InvalidMove(OrderError):
    """A value is not a move of the word."""

    def __init__(self, value):
        self.value = value


class InvalidUsers(OrderError):
    """A value is not a list of users, local users or homes."""

    def __init__(self, problem, position):
        self.problem = problem
        self.position = position


class InvalidMessage(OrderError):
    """A value is not a message for the replica."""

    def __init__(self, position):
        self.position = position


class InvalidText(OrderError):
    """A value is not the text of what is to be loaded."""

    def __init__(self, line):
        self.line = line


class SameItem(OrderError):
    """Two different items are required, and both are this one."""

    def __init__(self, value):
        self.value = value


class InvalidOperation(OrderError):
    """A value is not an operation; created with a message."""


class InvalidCommand(OrderError):
    """A value is not a command; created with a message."""


class UnknownItem(LookupError):
    """A value is not an item of the base."""

    def __init__(self, value):
        self.value = value


class UnknownUser(LookupError):
    """A value is not a user."""

    def __init__(self, value):
        self.value = value


class UnknownReplica(LookupError):
    """A value is not the name of a replica."""

    def __init__(self, value):
        self.value = value


class UnknownMessage(LookupError):
    """A value is not the number of a message."""

    def __init__(self, value):
        self.value = value


class NotLocal(RuntimeError):
    """The user is not local at the replica."""

    def __init__(self, user):
        self.user = user


class Forked(RuntimeError):
    """The log of the user was continued at two places."""

    def __init__(self, user):
        self.user = user


class NothingToUndo(RuntimeError):
    """The user has no operation that can be undone."""

    def __init__(self, user):
        self.user = user


class NotSettled(RuntimeError):
    """The replica knows other versions than the first one."""

    def __init__(self, replica):
        self.replica = replica


class LastItem(RuntimeError):
    """The item cannot be removed, because the base has no other one."""

    def __init__(self, value):
        self.value = value


class Obstructed(ArithmeticError):
    """The pairs are not the inverted pairs of an order."""

    def __init__(self, obstruction):
        self.obstruction = obstruction


class BrokenHistory(ArithmeticError):
    """The first pairs, as many as count says, are not an inversion set."""

    def __init__(self, count):
        self.count = count


class TooManyItems(ArithmeticError):
    """The base has more items than the limit."""

    def __init__(self, limit):
        self.limit = limit


class DifferentOrders(ArithmeticError):
    """Two words have different orders; created with a message."""
