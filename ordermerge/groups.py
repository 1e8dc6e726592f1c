"""Groups: replicas with names that send each other messages, and that change their base together."""

from ordermerge.bases import Base, check_order, is_name
from ordermerge.boards import MAX_USERS
from ordermerge.errors import InvalidOperation, InvalidUsers, NotSettled, UnknownMessage, UnknownReplica, UnknownUser
from ordermerge.integers import is_integer_from
from ordermerge.operations import perform_operation
from ordermerge.rebase import with_item, without_item
from ordermerge.replicas import Replica
from ordermerge.swap_log import SwapLog

MAX_REPLICAS = 6

# How many parts follow the word of an operation.
PARTS = {"swap": 2, "move": 3, "adopt": 2, "accept": 1, "remove": 1, "clear": 0, "undo": 0}


def home_problem(value, names, users):
    """Return the problem of a value that is to be a tuple (replica, users) after these names and users, or None."""
    if not isinstance(value, tuple) or len(value) != 2:
        return "home"
    name, residents = value
    if not is_name(name):
        return "name"
    if name in names:
        return "duplicate"
    if not isinstance(residents, list) or not all([is_name(user) for user in residents]):
        return "users"
    everybody = users + residents
    if len(set(everybody)) < len(everybody):
        return "user"
    return None


def check_homes(homes):
    """Raise InvalidUsers for the first problem of a value that is to be the homes of a group."""
    if not isinstance(homes, list):
        raise InvalidUsers("list", 0)
    names, users = [], []
    for at, value in enumerate(homes):
        problem = home_problem(value, names, users)
        if problem is not None:
            raise InvalidUsers(problem, at)
        names.append(value[0])
        users = users + value[1]
    if not 1 <= len(names) <= MAX_REPLICAS or not 1 <= len(users) <= MAX_USERS:
        raise InvalidUsers("count", 0)


def is_operation(value):
    """Tell for any value whether it is a tuple of the word of an operation and as many parts as it has."""
    if not isinstance(value, tuple) or not value or not isinstance(value[0], str):
        return False
    return value[0] in PARTS and len(value) == 1 + PARTS[value[0]]


class Group:
    """Replicas of the same users, each of whom is local at exactly one of them."""

    def __init__(self, base, homes):
        check_homes(homes)
        self.homes = {user: name for name, residents in homes for user in residents}
        self.replicas = {name: Replica(base, list(self.homes), residents) for name, residents in homes}
        self.ground = base
        # For each message that was sent a tuple: how often the base had been changed before, and the message.
        self.sent = []
        self.changes = 0

    def base(self):
        """Return the base."""
        return self.ground

    def names(self):
        """Return the list of the names of the replicas."""
        return list(self.replicas)

    def users(self):
        """Return the list of the users."""
        return list(self.homes)

    def home(self, user):
        """Return the name of the replica at which the user is local."""
        # Only names are looked up: a list or a dict could not be a key.
        if not is_name(user) or user not in self.homes:
            raise UnknownUser(user)
        return self.homes[user]

    def replica_at(self, name):
        """Return the replica with this name."""
        if not is_name(name) or name not in self.replicas:
            raise UnknownReplica(name)
        return self.replicas[name]

    def perform(self, user, operation):
        """Perform an operation of a user at its home, and return what the method of Replica returns."""
        place = self.replicas[self.home(user)]
        if not is_operation(operation):
            raise InvalidOperation("a tuple with the word of an operation and its parts is required")
        word, *parts = operation
        if word == "undo":
            return place.undo(user)
        return perform_operation(place, word, user, parts)

    def order(self, name, user):
        """Return the order of a user that the replica knows."""
        return self.replica_at(name).order(user)

    def entries(self, name, user):
        """Return the entries of a user that the replica knows."""
        return self.replica_at(name).entries(user)

    def versions(self, name):
        """Return a dict from all users to the versions that the replica knows."""
        return self.replica_at(name).versions()

    def merged(self, name):
        """Return the merged order of the replica."""
        return self.replica_at(name).merged()

    def send(self, name):
        """Store the current message of a replica. Return its number."""
        message = self.replica_at(name).message()
        self.sent.append((self.changes, message))
        return len(self.sent) - 1

    def deliver(self, number, name):
        """Deliver a message to a replica. Return the list of the users whose logs were replaced."""
        if not is_integer_from(number, 0, len(self.sent) - 1):
            raise UnknownMessage(number)
        place = self.replica_at(name)
        changes, message = self.sent[number]
        # The logs in an older message are those of another base.
        if changes < self.changes:
            return []
        return place.receive(message)

    def first_unsettled(self):
        """Return the name of the first replica whose versions differ from those of the first one, or None."""
        names = self.names()
        for name in names:
            if self.versions(name) != self.versions(names[0]):
                return name
        return None

    def is_settled(self):
        """Tell whether all replicas have the same versions."""
        return self.first_unsettled() is None

    def settle(self):
        """Deliver the newest log of each user to all replicas."""
        messages = [self.replicas[name].message() for name in self.names()]
        for name in self.names():
            for message in messages:
                self.replicas[name].receive(message)

    def check_settled(self):
        """Raise NotSettled if the base cannot be changed now."""
        name = self.first_unsettled()
        if name is not None:
            raise NotSettled(name)

    def known_logs(self):
        """Return a dict from all users to the logs that every replica of a settled group knows."""
        return dict(self.replicas[self.names()[0]].logs)

    def change_base(self, logs):
        """Replace the log of each user at each replica by one of the new base."""
        self.ground = logs[self.users()[0]].base()
        for name in self.names():
            self.replicas[name].renew(self.ground, logs)
        self.changes += 1

    def add_item(self, item):
        """Add an item at the end of the base and of all orders."""
        self.check_settled()
        logs = self.known_logs()
        self.change_base({user: with_item(logs[user], item) for user in logs})

    def remove_item(self, item):
        """Remove an item from the base and from all orders."""
        self.check_settled()
        logs = self.known_logs()
        self.change_base({user: without_item(logs[user], item) for user in logs})

    def rebase(self, order):
        """Replace the base by the order, and empty all logs."""
        self.check_settled()
        check_order(self.ground, order)
        base = Base(order)
        self.change_base({user: SwapLog(base) for user in self.homes})
