"""The reader that never goes back."""

from switchyard.kinds import checked_words
from switchyard.readings import told_reading
from switchyard.ways import FIRST, Ways


class Refused:
    """That the reader stopped at the word with this number, or behind all words."""

    def __init__(self, number):
        self.number = number

    def __eq__(self, other):
        return isinstance(other, Refused) and self.number == other.number

    def __bool__(self):
        return False


def read(table, words):
    """The reading to which the reader comes, or where it stops."""
    row = checked_words(words)
    ways = Ways(table)
    number, place, told = walked(ways, row)
    if number < len(row) or not ways.may_end(place):
        return Refused(number)
    return told_reading(table, told)


def walked(ways, row):
    """How many words the reader reads, its place behind them, and the marks that they leave.

    Steps come in the order in which the reader tries them, so it always takes the first one.
    """
    place = FIRST
    told = []
    for number, word in enumerate(row):
        steps = ways.steps(place, word)
        if len(steps) == 0:
            return number, place, told
        place, marks = steps[0]
        told.extend(marks)
    return len(row), place, told
