"""Defaults, laid below what a list tells."""

from switchyard.errors import BadLaying
from switchyard.kinds import is_of


def laid(table, reading, defaults):
    """The values of each option of a reading, with defaults for those that have none."""
    for name, word in defaults.items():
        option = table.option(name)
        if option is None or option.takes[0] == "nothing" or not is_of(option.takes[1], word):
            raise BadLaying(name)
    found = {}
    for name, comings in reading.options.items():
        values = tuple([value for coming in comings for value in coming])
        if len(values) == 0 and name in defaults:
            values = (defaults[name],)
        found[name] = values
    return found
