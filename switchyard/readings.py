"""All readings of a list of words by a table."""

from switchyard.errors import TooLarge
from switchyard.kinds import checked_words
from switchyard.ways import FIRST, Ways, tables_on_the_way

MOST_WORDS = 12


class Reading:
    """What a list tells: the comings of options, the words of operands, and the command."""

    def __init__(self, options, operands, command):
        self.options = {name: options[name] for name in sorted(options)}
        self.operands = {name: operands[name] for name in sorted(operands)}
        self.command = command

    def __eq__(self, other):
        return (
            isinstance(other, Reading)
            and self.options == other.options
            and self.operands == other.operands
            and self.command == other.command
        )

    def key(self):
        """The command, the options and the operands, as tuples alone."""
        return (self.command, tuple(self.options.items()), tuple(self.operands.items()))


def readings(table, words):
    """The list of all readings of a list, ascending by their keys."""
    row = checked_words(words)
    if len(row) > MOST_WORDS:
        raise TooLarge(len(row))
    return all_readings(table, row)


def all_readings(table, row):
    """As `readings`, for lists of any number of words."""
    told = {}
    for marks in _tellings(live_layers(Ways(table), row)):
        reading = told_reading(table, marks)
        told[reading.key()] = reading
    return [told[key] for key in sorted(told)]


def told_reading(table, marks):
    """The reading that the marks of a whole way tell."""
    comings = {}
    texts = {}
    command = ""
    for what, name, text in marks:
        if what == "came":
            comings.setdefault(name, []).append([])
        elif what == "value":
            comings[name][-1].append(text)
        elif what == "word":
            texts.setdefault(name, []).append(text)
        else:
            command = text
    options = {}
    operands = {}
    for part in tables_on_the_way(table, command):
        for option in part.options:
            options[option.name] = tuple([tuple(values) for values in comings.get(option.name, [])])
        for operand in part.operands:
            operands[operand.name] = tuple(texts.get(operand.name, []))
    return Reading(options, operands, command)


def live_layers(ways, row):
    """For each word the places ahead of it, with the steps by it that some end of the list follows.

    What leads nowhere is left out before anything is told, as it may tell very much.
    """
    layers = []
    places = {FIRST: True}
    for word in row:
        layer = {place: ways.steps(place, word) for place in places}
        layers.append(layer)
        places = {place: True for steps in layer.values() for place, _ in steps}
    live = {place: [] for place in places if ways.may_end(place)}
    kept = [live]
    for layer in reversed(layers):
        behind = live
        live = {}
        for place, steps in layer.items():
            good = [step for step in steps if step[0] in behind]
            if len(good) > 0:
                live[place] = good
        kept.append(live)
    kept.reverse()
    return kept


def _tellings(layers):
    """The marks of all ways through the layers, each telling once.

    Marks are sorted by names alone, which keeps the turn of those with one name:
    ways that differ only in the turn of unlike names tell the same.
    """
    found = {(place, ()): True for place in layers[0]}
    for layer in layers[:-1]:
        later = {}
        for place, told in found:
            for behind, marks in layer[place]:
                later[(behind, tuple(sorted(told + marks, key=lambda mark: mark[1])))] = True
        found = later
    return list({told: True for _, told in found})
