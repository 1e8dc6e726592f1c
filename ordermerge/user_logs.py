"""What boards and replicas have in common: a base, users, and a swap log of each user."""

from ordermerge.bases import is_name
from ordermerge.errors import UnknownUser
from ordermerge.swap_log import SwapLog


class UserLogs:
    """The logs of users. A log that stands here is never changed but replaced, so that it can be kept elsewhere too."""

    def __init__(self, base, users):
        self.ground = base
        self.members = list(users)
        self.logs = {user: SwapLog(base) for user in users}

    def has_user(self, value):
        """Tell for any value whether it is a user."""
        # Only names are looked up: a list or a dict could not be a key.
        return is_name(value) and value in self.logs

    def check_user(self, user):
        """Raise UnknownUser if the value is not a user."""
        if not self.has_user(user):
            raise UnknownUser(user)

    def log_of(self, user):
        """Return the log of a user; it is not to be changed."""
        self.check_user(user)
        return self.logs[user]

    def orders(self):
        """Return the list of the orders of all users, in the sequence of the users."""
        return [self.logs[user].order() for user in self.members]
