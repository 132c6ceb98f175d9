"""Whether a table reads all that another one reads, and reads it alike."""

from switchyard.clear import judge_clear
from switchyard.judgeerrors import NotClear
from switchyard.machines import alphabet, check_measures
from switchyard.nets import Net, least_row_of_both, told_words
from switchyard.readings import Reading, all_readings
from switchyard.sides import Sets, Sides
from switchyard.tellings import are_like, are_words, as_tuple, has_reading, is_reading
from switchyard.twins import Twins


class Parted:
    """A list that two tables don't read alike, with its readings by both, None for none."""

    def __init__(self, words, one, other):
        self.words = as_tuple(words)
        self.one = one
        self.other = other

    def __eq__(self, other):
        return (
            isinstance(other, Parted)
            and self.words == other.words
            and self.one == other.one
            and self.other == other.other
        )

    def shows(self, one, other):
        """Whether the tables have these readings of the list, and these are not like."""
        check_measures(one)
        check_measures(other)
        if not are_words(self.words):
            return False
        if not _is_told(one, self.words, self.one) or not _is_told(other, self.words, self.other):
            return False
        if self.one is None or self.other is None:
            return self.one is not None or self.other is not None
        return not are_like(self.one, self.other)


def judge_extends(old, new):
    """None if the new table reads every list that the old one reads, and alike; otherwise the least Parted."""
    return _judged(old, new, False)


def judge_alike(one, other):
    """None if both tables read the same lists, and alike; otherwise the least Parted."""
    return _judged(one, other, True)


def _judged(one, other, both_ways):
    check_measures(one)
    check_measures(other)
    for table in [one, other]:
        told = judge_clear(table)
        if not told:
            raise NotClear(told)
    signs = alphabet([one, other], "")
    nets = [Net(table, signs, False) for table in [one, other]]
    sides = Sides(Sets(nets[0]), Sets(nets[1]), both_ways)
    row = least_row_of_both(sides, Twins(nets[0], nets[1]))
    if row is None:
        return None
    words = told_words(signs, row)
    return Parted(words, _only_reading(one, words), _only_reading(other, words))


def _only_reading(table, words):
    """The reading of a list by a table that is clear; None without one."""
    for reading in all_readings(table, words):
        return reading
    return None


def _is_told(table, words, reading):
    """Whether this is a reading of a list, or None and it has none."""
    if isinstance(reading, Reading):
        return is_reading(table, words, reading)
    return reading is None and not has_reading(table, words)
