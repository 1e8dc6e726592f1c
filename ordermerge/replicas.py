"""Replicas: what one place knows of the logs of all users, and the messages by which places tell each other."""

from ordermerge.bases import is_name
from ordermerge.boards import check_users
from ordermerge.errors import Forked, InvalidEntries, InvalidMessage, InvalidUsers, NothingToUndo, NotLocal
from ordermerge.integers import is_count
from ordermerge.merging import join_orders, meet_orders
from ordermerge.swap_log import NO_REASON, log_from_entries
from ordermerge.user_logs import UserLogs


def state_from(base, user, value):
    """Return the version and the log that an element of a message has for a user, or None for any other value."""
    if not isinstance(value, tuple) or len(value) != 3:
        return None
    name, version, entries = value
    if not is_name(name) or name != user or not is_count(version) or not isinstance(entries, tuple):
        return None
    if version == 0 and entries:
        return None
    try:
        return (version, log_from_entries(base, list(entries)))
    except InvalidEntries:
        return None


class Replica(UserLogs):
    """The known logs and versions of all users, of whom the local ones can change their logs here."""

    def __init__(self, base, users, local):
        check_users(users)
        UserLogs.__init__(self, base, users)
        self.check_local(local)
        self.residents = list(local)
        self.counts = {user: 0 for user in users}
        # For each user the logs before those operations that can still be undone.
        self.former = {user: [] for user in users}

    def __eq__(self, other):
        if not isinstance(other, Replica):
            return False
        if self.ground != other.ground or self.members != other.members or self.residents != other.residents:
            return False
        return self.logs == other.logs and self.counts == other.counts

    def check_local(self, local):
        """Raise InvalidUsers if the value is not a list of different users."""
        if not isinstance(local, list):
            raise InvalidUsers("local", 0)
        for at, user in enumerate(local):
            if not self.has_user(user) or user in local[:at]:
                raise InvalidUsers("local", at)

    def base(self):
        """Return the base."""
        return self.ground

    def users(self):
        """Return the list of the users, in the given sequence."""
        return list(self.members)

    def local(self):
        """Return the list of the local users, in the given sequence."""
        return list(self.residents)

    def order(self, user):
        """Return the known order of a user."""
        return self.log_of(user).order()

    def entries(self, user):
        """Return the known entries of a user."""
        return self.log_of(user).entries()

    def version(self, user):
        """Return the known version of a user."""
        self.check_user(user)
        return self.counts[user]

    def versions(self):
        """Return a dict from all users to their known versions."""
        return {user: self.counts[user] for user in self.members}

    def check_resident(self, user):
        """Raise the error for a value that is not a local user."""
        self.check_user(user)
        if user not in self.residents:
            raise NotLocal(user)

    def local_log(self, user):
        """Return the log of a local user; it is not to be changed."""
        self.check_resident(user)
        return self.logs[user]

    def advance(self, user, log):
        """Replace the log of a local user by what an operation made of it."""
        self.former[user].append(self.logs[user])
        self.replace_log(user, log, self.counts[user] + 1)

    def replace_log(self, user, log, version):
        """Replace the log and the version of a user."""
        self.logs[user] = log
        self.counts[user] = version

    def swap(self, user, index, *, reason=NO_REASON):
        """Perform a swap. Return None if it was outward, else the position of the entry that it cancelled."""
        log = self.local_log(user).clone()
        cancelled = log.swap(index, reason=reason)
        self.advance(user, log)
        return cancelled

    def move(self, user, item, index, *, reason=NO_REASON):
        """Move an item to the index. Return how many entries were added and cancelled."""
        log = self.local_log(user).clone()
        counts = log.move(item, index, reason=reason)
        self.advance(user, log)
        return counts

    def adopt(self, user, order, *, reason=NO_REASON):
        """Perform the swaps to the given order. Return how many entries were added and cancelled."""
        log = self.local_log(user).clone()
        counts = log.adopt(order, reason=reason)
        self.advance(user, log)
        return counts

    def accept(self, user, *, reason=NO_REASON):
        """Perform the swaps to the merged order of the known logs. Return how many entries were added, and 0."""
        log = self.local_log(user).clone()
        counts = log.adopt(self.merged(), reason=reason)
        self.advance(user, log)
        return counts

    def remove_entry(self, user, position):
        """Remove an entry. Return the rising list of the former positions of all entries that are gone."""
        log = self.local_log(user).clone()
        gone = log.remove_entry(position)
        self.advance(user, log)
        return gone

    def clear_entries(self, user):
        """Remove all entries of a user."""
        log = self.local_log(user).clone()
        log.clear_entries()
        self.advance(user, log)

    def undo(self, user):
        """Undo the last operation of a local user that is not undone yet."""
        self.check_resident(user)
        if not self.former[user]:
            raise NothingToUndo(user)
        self.replace_log(user, self.former[user].pop(), self.counts[user] + 1)

    def merged(self):
        """Return the merged order: the join of the known orders."""
        return join_orders(self.ground, self.orders())

    def common(self):
        """Return the common order: the meet of the known orders."""
        return meet_orders(self.ground, self.orders())

    def message(self):
        """Return the current message: a list of tuples (user, version, entries), entries as a tuple."""
        return [(user, self.counts[user], tuple(self.logs[user].entries())) for user in self.members]

    def read_message(self, message):
        """Return tuples (user, version, log) for all users, or raise InvalidMessage."""
        if not isinstance(message, list):
            raise InvalidMessage(0)
        states = []
        for at, (user, value) in enumerate(zip(self.members, message)):
            state = state_from(self.ground, user, value)
            if state is None:
                raise InvalidMessage(at)
            version, log = state
            states.append((user, version, log))
        if len(message) != len(self.members):
            raise InvalidMessage(len(states))
        return states

    def is_fork(self, user, version, log):
        """Tell whether the user's log was continued elsewhere, if it is so in this version."""
        if version > self.counts[user]:
            return user in self.residents
        return version == self.counts[user] and log != self.logs[user]

    def receive(self, message):
        """Take over what a message knows better. Return the list of the users whose logs were replaced."""
        states = self.read_message(message)
        for user, version, log in states:
            if self.is_fork(user, version, log):
                raise Forked(user)
        newer = [(user, version, log) for user, version, log in states if version > self.counts[user]]
        for user, version, log in newer:
            self.replace_log(user, log, version)
        return [user for user, version, log in newer]

    def renew(self, base, logs):
        """Replace the base and the logs of all users, a dict; nothing can be undone that was done before."""
        self.ground = base
        for user in self.members:
            self.replace_log(user, logs[user], self.counts[user] + 1)
            self.former[user] = []
