"""Boards: users who reorder the items of one base, and the order into which their orders are merged."""

from ordermerge.arcs import supporters
from ordermerge.bases import names_fault
from ordermerge.errors import InvalidCount, InvalidUsers
from ordermerge.explain import explain_inverted
from ordermerge.integers import is_integer_from
from ordermerge.merging import join_orders, meet_orders
from ordermerge.swap_log import NO_REASON
from ordermerge.user_logs import UserLogs

MAX_USERS = 8


def check_users(users):
    """Raise InvalidUsers for the first problem of a value that is to be the users."""
    fault = names_fault(users, MAX_USERS)
    if fault is not None:
        problem, position = fault
        raise InvalidUsers(problem, position)


class Board(UserLogs):
    """The logs of users, and the operations that led to them."""

    def __init__(self, base, users):
        check_users(users)
        UserLogs.__init__(self, base, users)
        # For each operation a tuple: the operation, and the log of its user before it.
        self.done = []

    def __eq__(self, other):
        if not isinstance(other, Board):
            return False
        return self.ground == other.ground and self.members == other.members and self.logs == other.logs

    def __len__(self):
        return len(self.done)

    def base(self):
        """Return the base."""
        return self.ground

    def users(self):
        """Return the list of the users, in the given sequence."""
        return list(self.members)

    def order(self, user):
        """Return the order of a user."""
        return self.log_of(user).order()

    def entries(self, user):
        """Return the entries of the log of a user."""
        return self.log_of(user).entries()

    def record(self, operation, log):
        """Replace the log of the user of an operation, and keep what is needed to undo it."""
        user = operation[1]
        self.done.append((operation, self.logs[user]))
        self.logs[user] = log

    def swap(self, user, index, *, reason=NO_REASON):
        """Perform a swap. Return None if it was outward, else the position of the entry that it cancelled."""
        log = self.log_of(user).clone()
        cancelled = log.swap(index, reason=reason)
        self.record(("swap", user, index, reason), log)
        return cancelled

    def move(self, user, item, index, *, reason=NO_REASON):
        """Move an item to the index. Return how many entries were added and cancelled."""
        log = self.log_of(user).clone()
        counts = log.move(item, index, reason=reason)
        self.record(("move", user, item, index, reason), log)
        return counts

    def adopt(self, user, order, *, reason=NO_REASON):
        """Perform the swaps to the given order. Return how many entries were added and cancelled."""
        log = self.log_of(user).clone()
        counts = log.adopt(order, reason=reason)
        self.record(("adopt", user, tuple(order), reason), log)
        return counts

    def accept(self, user, *, reason=NO_REASON):
        """Perform the swaps to the merged order. Return how many entries were added, and 0."""
        log = self.log_of(user).clone()
        counts = log.adopt(self.merged(), reason=reason)
        self.record(("accept", user, reason), log)
        return counts

    def remove_entry(self, user, position):
        """Remove an entry. Return the rising list of the former positions of all entries that are gone."""
        log = self.log_of(user).clone()
        gone = log.remove_entry(position)
        self.record(("remove", user, position), log)
        return gone

    def clear_entries(self, user):
        """Remove all entries of a user."""
        log = self.log_of(user).clone()
        log.clear_entries()
        self.record(("clear", user), log)

    def merged(self):
        """Return the merged order: the join of the orders of all users."""
        return join_orders(self.ground, self.orders())

    def common(self):
        """Return the common order: the meet of the orders of all users."""
        return meet_orders(self.ground, self.orders())

    def needed_users(self):
        """Return the list of the users without whose orders the merged order would be another one."""
        merged, orders = self.merged(), self.orders()
        return [
            user for at, user in enumerate(self.members)
            if join_orders(self.ground, orders[:at] + orders[at + 1:]) != merged
        ]

    def explain(self, first, second):
        """Return a chain with users for the pair of two items, or None if it is not inverted in the merged order."""
        chain = explain_inverted(self.ground, self.orders(), first, second)
        if chain is None:
            return None
        return [(lower, upper, self.members[index]) for lower, upper, index in chain]

    def supporters(self):
        """Return tuples (arc, users): each arc of the merged order, and the users whose orders support it."""
        return [
            (arc, [self.members[index] for index in indexes])
            for arc, indexes in supporters(self.ground, self.orders())
        ]

    def undo(self, count=1):
        """Restore the state before the last so many operations. Return the number of the remaining ones."""
        if not is_integer_from(count, 0, len(self.done)):
            raise InvalidCount(count)
        for turn in range(count):
            operation, log = self.done.pop()
            self.logs[operation[1]] = log
        return len(self.done)

    def operations(self):
        """Return the list of the operations."""
        return [operation for operation, log in self.done]

    def clone(self):
        """Return an independent copy with the same operations."""
        other = Board(self.ground, self.members)
        # Logs are shared, because they are never changed.
        other.logs = dict(self.logs)
        other.done = list(self.done)
        return other
