"""Second, plain descriptions of boards, replicas and groups, against which the tests compare the package's."""

from tests.helpers import inverted_in
from tests.log_model import exchange, model_remove, model_swap, model_swaps, replay

WORDS = ["swap", "swap", "move", "adopt", "accept", "remove", "clear"]
REASONS = ["", "", "late", "urgent"]


def model_path(order, other):
    """Return the indexes of the swaps from one order to another one: always the smallest that is possible."""
    order, indexes = list(order), []
    while order != other:
        index = [at for at in range(len(order) - 1) if other.index(order[at]) > other.index(order[at + 1])][0]
        exchange(order, index)
        indexes.append(index)
    return indexes


def model_join(names, orders):
    """Return the order in which those pairs are inverted that can be composed of inverted pairs of the orders."""
    pairs = {pair for order in orders for pair in inverted_in(names, order)}
    while True:
        more = {(low, high) for low, middle in pairs for other, high in pairs if middle == other} - pairs
        if not more:
            break
        pairs |= more

    def stands_before(one, two):
        if names.index(one) < names.index(two):
            return (one, two) not in pairs
        return (two, one) in pairs

    return sorted(names, key=lambda name: sum([stands_before(other, name) for other in names if other != name]))


def model_meet(names, orders):
    return model_join(names[::-1], orders)


def model_perform(names, entries, word, parts, merged):
    """Return the entries after an operation, and what the operation returns."""
    order = replay(names, entries)[0]
    if word == "swap":
        return model_swap(names, entries, parts[0], parts[1])
    if word == "move":
        at, index = order.index(parts[0]), parts[1]
        indexes = range(at, index) if at < index else range(at - 1, index - 1, -1)
        return model_swaps(names, entries, indexes, parts[2])
    if word == "adopt":
        return model_swaps(names, entries, model_path(order, list(parts[0])), parts[1])
    if word == "accept":
        return model_swaps(names, entries, model_path(order, merged), parts[0])
    if word == "remove":
        return model_remove(names, entries, parts[0])
    return [], None


def random_parts(chance, names, entries, word):
    """Return parts with which an operation of this word is possible, or None if there are none."""
    reason = chance.choice(REASONS)
    if word == "swap":
        return (chance.randrange(len(names) - 1), reason) if len(names) > 1 else None
    if word == "move":
        return (chance.choice(names), chance.randrange(len(names)), reason)
    if word == "adopt":
        return (chance.sample(names, len(names)), reason)
    if word == "accept":
        return (reason,)
    if word == "remove":
        return (chance.randrange(len(entries)),) if entries else None
    return ()


def random_operation(chance, names, entries):
    """Return a word and parts of an operation that is possible with these entries; clearing is rare."""
    parts = None
    while parts is None:
        word = chance.choice(WORDS)
        if word != "clear" or chance.randrange(4) == 0:
            parts = random_parts(chance, names, entries, word)
    return word, parts


def call_on(place, word, user, parts):
    """Call the method of a board or a replica for an operation."""
    if word == "remove":
        return place.remove_entry(user, *parts)
    if word == "clear":
        return place.clear_entries(user)
    *others, reason = parts
    return getattr(place, word)(user, *others, reason=reason)


def as_recorded(word, user, parts):
    """Return an operation as a board records it."""
    return (word, user, *[tuple(part) if isinstance(part, list) else part for part in parts])


class BoardModel:
    """The entries of each user before the first operation and after each one, and the operations."""

    def __init__(self, names, users):
        self.names, self.users = names, users
        self.states = [{user: [] for user in users}]
        self.operations = []

    def entries(self, user):
        return self.states[-1][user]

    def orders(self):
        return [replay(self.names, self.entries(user))[0] for user in self.users]

    def perform(self, word, user, parts):
        merged = model_join(self.names, self.orders())
        entries, result = model_perform(self.names, self.entries(user), word, parts, merged)
        self.states.append({**self.states[-1], user: entries})
        self.operations.append(as_recorded(word, user, parts))
        return result

    def undo(self, count):
        left = len(self.operations) - count
        self.states, self.operations = self.states[:left + 1], self.operations[:left]
        return left


class ReplicaModel:
    """The known state (version, entries) of each user, and what local users can undo."""

    def __init__(self, names, users, local):
        self.names, self.users, self.local = names, users, local
        self.known = {user: (0, []) for user in users}
        self.former = {user: [] for user in local}

    def orders(self):
        return [replay(self.names, self.known[user][1])[0] for user in self.users]

    def perform(self, word, user, parts):
        version, before = self.known[user]
        if word == "undo":
            self.known[user] = (version + 1, self.former[user].pop())
            return None
        entries, result = model_perform(self.names, before, word, parts, model_join(self.names, self.orders()))
        self.former[user].append(before)
        self.known[user] = (version + 1, entries)
        return result

    def message(self):
        return [(user, version, tuple(entries)) for user, (version, entries) in self.known.items()]

    def receive(self, message):
        newer = [row for row in message if row[1] > self.known[row[0]][0]]
        for user, version, entries in newer:
            self.known[user] = (version, list(entries))
        return [user for user, version, entries in newer]

    def change_base(self, names, changed):
        """Replace the base, and the entries of each user by what a function makes of them."""
        self.names = names
        self.known = {user: (version + 1, changed(entries)) for user, (version, entries) in self.known.items()}
        self.former = {user: [] for user in self.local}


def model_without(names, entries, item):
    """Return the entries without those that moved an item, for the base without it."""
    pairs = replay(names, entries)[1]
    kept = []
    for at, (index, reason) in enumerate(entries):
        before = replay(names, entries[:at])[0]
        if item not in pairs[at]:
            kept.append((index - (item in before[:index]), reason))
    return kept


class GroupModel:
    """Models of replicas, and the messages that were sent; those of an earlier base are None."""

    def __init__(self, names, homes):
        self.names = names
        self.homes = {user: name for name, local in homes for user in local}
        self.replicas = {name: ReplicaModel(names, list(self.homes), local) for name, local in homes}
        self.sent = []

    def perform(self, user, word, parts):
        return self.replicas[self.homes[user]].perform(word, user, parts)

    def send(self, name):
        self.sent.append(self.replicas[name].message())
        return len(self.sent) - 1

    def deliver(self, number, name):
        return self.replicas[name].receive(self.sent[number] or [])

    def versions(self, name):
        return {user: version for user, (version, entries) in self.replicas[name].known.items()}

    def is_settled(self):
        versions = [self.versions(name) for name in self.replicas]
        return all(row == versions[0] for row in versions)

    def settle(self):
        for user, home in self.homes.items():
            for replica in self.replicas.values():
                replica.known[user] = self.replicas[home].known[user]

    def change_base(self, names, changed):
        for replica in self.replicas.values():
            replica.change_base(names, changed)
        self.names = names
        self.sent = [None] * len(self.sent)

    def add_item(self, item):
        self.change_base(self.names + [item], lambda entries: entries)

    def remove_item(self, item):
        before, names = self.names, [name for name in self.names if name != item]
        self.change_base(names, lambda entries: model_without(before, entries, item))

    def rebase(self, order):
        self.change_base(list(order), lambda entries: [])
