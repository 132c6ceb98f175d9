"""How many lists of a length have a reading."""

from switchyard.errors import BadPart
from switchyard.groups import OTHER, signs_apart
from switchyard.kinds import is_integer
from switchyard.leads import Leads
from switchyard.machines import alphabet, check_measures
from switchyard.nets import Net

MOST_LENGTH = 12


def count_lists(table, length):
    """For each length up to this one how many lists over the table's alphabet have a reading."""
    check_measures(table)
    if not is_integer(length) or not 0 <= length <= MOST_LENGTH:
        raise BadPart("length")
    leads = Leads(Net(table, alphabet([table], ""), False))
    # how many rows lead to each set of places, but for places from which it is too far to an end
    many = {(0,): 1}
    counts = []
    for left in range(length, -1, -1):
        counts.append(sum([rows for places, rows in many.items() if _has_end(leads, places)]))
        many = _led_on(leads, many, left - 1)
    return tuple(counts)


def _has_end(leads, places):
    return any([leads.left(place) == 0 for place in places])


def _led_on(leads, many, left):
    """How many rows of one sign more lead to each set of places from which at most so many signs lead to an end."""
    found = {}
    for places, rows in many.items():
        groups = [leads.net.grouped_moves(place) for place in places]
        signs = signs_apart(groups)
        for sign in signs:
            led = {behind: True for moves in groups for behind, _ in moves.get(sign, moves[OTHER])}
            later = tuple(sorted([place for place in led if leads.left(place) <= left]))
            times = 1
            if sign == OTHER:
                times = len(leads.net.signs) + 1 - len(signs)
            if len(later) > 0:
                found[later] = found.get(later, 0) + rows * times
    return found
