"""The errors of what is decided for all lists."""

from switchyard.errors import SwitchError


class NotClear(SwitchError):
    """A table is not clear: a list has two readings."""

    def __init__(self, twice):
        self.twice = twice

    def __eq__(self, other):
        return isinstance(other, NotClear) and self.twice == other.twice


class BadName(SwitchError):
    """There is no table with a further option of this name."""

    def __init__(self, name):
        self.name = name

    def __eq__(self, other):
        return isinstance(other, BadName) and self.name == other.name
