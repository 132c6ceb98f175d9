"""Whether every list of words has at most one reading."""

from switchyard.machines import alphabet, check_measures
from switchyard.nets import Net, least_row, live_among, told_words
from switchyard.readings import all_readings
from switchyard.tellings import are_words, as_tuple, is_reading
from switchyard.twins import Selves, turned_rows


class Clear:
    """That a table is clear: the lags of all pairs of places that lead on to ends, and the other pairs."""

    def __init__(self, lags, dead):
        self.lags = {pair: lags[pair] for pair in lags}
        self.dead = dead

    def __eq__(self, other):
        return isinstance(other, Clear) and self.lags == other.lags and self.dead == other.dead

    def __bool__(self):
        return True

    def shows(self, table):
        """Whether the table is clear, with just these lags and dead pairs."""
        told = judge_clear(table)
        return isinstance(told, Clear) and self.lags == told.lags and _are_just(self.dead, told.dead)


class Twice:
    """That a table is not clear: a list with two unlike readings."""

    def __init__(self, words, one, other):
        self.words = as_tuple(words)
        self.one = one
        self.other = other

    def __eq__(self, other):
        return (
            isinstance(other, Twice)
            and self.words == other.words
            and self.one == other.one
            and self.other == other.other
        )

    def __bool__(self):
        return False

    def shows(self, table):
        """Whether both are readings of the list, and unlike."""
        check_measures(table)
        if not are_words(self.words) or self.one == self.other:
            return False
        return is_reading(table, self.words, self.one) and is_reading(table, self.words, self.other)


def judge_clear(table):
    """A Clear if every list has at most one reading, otherwise the least Twice."""
    check_measures(table)
    signs = alphabet([table], "")
    selves = Selves(Net(table, signs, True))
    row = least_row(selves, None)
    if row is None:
        return _clear(selves)
    words = told_words(signs, row)
    told = all_readings(table, words)
    return Twice(words, told[0], told[1])


def _clear(selves):
    pairs = selves.pairs()
    live = live_among(selves.before, [pair for pair in pairs if selves.is_end(pair)])
    places = selves.net.places
    lags = {}
    dead = []
    for pair, rows in pairs.items():
        one = places[pair[0]]
        other = places[pair[1]]
        if pair not in live:
            dead.append((min(one, other), max(one, other)))
        elif one <= other:
            lags[(one, other)] = rows
        else:
            lags[(other, one)] = turned_rows(rows)
    return Clear(lags, tuple(dead))


def _are_just(pairs, others):
    """Whether a tuple, which may hold anything, holds each of these pairs once, and nothing else."""
    if not isinstance(pairs, tuple):
        return False
    left = {pair: True for pair in others}
    for pair in pairs:
        if not _is_plain(pair) or pair not in left:
            return False
        del left[pair]
    return len(left) == 0


def _is_plain(value):
    """Whether a value is made of strings, integers and tuples alone, as pairs of places are."""
    if isinstance(value, tuple):
        return all([_is_plain(part) for part in value])
    return isinstance(value, (str, int))
