"""Whether the reader of a table reads all that the reader of another one reads, and alike."""

from switchyard.machines import alphabet, check_measures
from switchyard.nets import Net, least_row_of_both, told_words
from switchyard.reader import read
from switchyard.sides import Sides
from switchyard.tellings import are_like, are_words, as_tuple
from switchyard.tracks import LiveWalks, Tracks
from switchyard.twins import Twins


class ReadersParted:
    """A list that the readers of two tables don't read alike, with what they read, None for one that refuses it."""

    def __init__(self, words, one, other):
        self.words = as_tuple(words)
        self.one = one
        self.other = other

    def __eq__(self, other):
        return (
            isinstance(other, ReadersParted)
            and self.words == other.words
            and self.one == other.one
            and self.other == other.other
        )

    def shows(self, one, other):
        """Whether the readers of both tables read this of the list, and it is not alike."""
        check_measures(one)
        check_measures(other)
        if not are_words(self.words):
            return False
        told = what_is_read(one, self.words)
        beside = what_is_read(other, self.words)
        return self.one == told and self.other == beside and not _are_alike(told, beside)


def judge_readers(old, new):
    """None if the new reader reads every list that the old one reads, and alike; otherwise the least ReadersParted."""
    return _judged(old, new, False)


def judge_readers_alike(one, other):
    """None if both readers read the same lists, and alike; otherwise the least ReadersParted."""
    return _judged(one, other, True)


def _judged(one, other, both_ways):
    check_measures(one)
    check_measures(other)
    signs = alphabet([one, other], "")
    tracks = [Tracks(Net(table, signs, False)) for table in [one, other]]
    sides = Sides(LiveWalks(tracks[0]), LiveWalks(tracks[1]), both_ways)
    row = least_row_of_both(sides, Twins(tracks[0], tracks[1]))
    if row is None:
        return None
    words = told_words(signs, row)
    return ReadersParted(words, what_is_read(one, words), what_is_read(other, words))


def what_is_read(table, words):
    """What the reader reads of a list; None if it refuses it."""
    told = read(table, words)
    if told:
        return told
    return None


def _are_alike(one, other):
    """Whether two readings are like, or neither is there."""
    if one is None or other is None:
        return one is None and other is None
    return are_like(one, other)
