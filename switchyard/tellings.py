"""What is asked of lists of any length and of readings that anybody made."""

from switchyard.kinds import is_row
from switchyard.readings import Reading, live_layers, told_reading
from switchyard.ways import Ways


def are_words(words):
    """Whether this is a row of words."""
    return is_row(words) and all([isinstance(word, str) for word in words])


def as_tuple(words):
    """A row of words as a tuple; what is none, as it is."""
    if is_row(words):
        return tuple(words)
    return words


def has_reading(table, words):
    """Whether a list has a reading."""
    return len(live_layers(Ways(table), words)[0]) > 0


def is_reading(table, words, reading):
    """Whether this is a reading of a list."""
    if not _is_made_of_rows(reading) or (reading.command != "" and reading.command not in table.commands):
        return False
    told = marks_of(reading)
    if told_reading(table, told) != reading:
        return False
    tapes = {}
    for mark in told:
        tapes.setdefault(mark[1], []).append(mark)
    layers = live_layers(Ways(table), words)
    found = {(place, ()): True for place in layers[0]}
    for layer in layers[:-1]:
        later = {}
        for place, counts in found:
            for behind, marks in layer[place]:
                further = _further_counts(tapes, counts, marks)
                if further is not None:
                    later[(behind, further)] = True
        found = later
    whole = tuple(sorted([(name, len(tape)) for name, tape in tapes.items()]))
    return whole in [counts for _, counts in found]


def are_like(one, other):
    """Whether two readings tell the same; a name that one has not counts as one without anything."""
    return (
        one.command == other.command
        and _what_is_there(one.options) == _what_is_there(other.options)
        and _what_is_there(one.operands) == _what_is_there(other.operands)
    )


def marks_of(reading):
    """The marks of `switchyard.ways` that tell a reading, those of each name in their order."""
    marks = []
    for name, comings in reading.options.items():
        for values in comings:
            marks.append(("came", name, ""))
            marks.extend([("value", name, value) for value in values])
    for name, words in reading.operands.items():
        marks.extend([("word", name, word) for word in words])
    if reading.command != "":
        marks.append(("command", "", reading.command))
    return marks


def _is_made_of_rows(reading):
    """Whether this is a Reading whose parts can be gone through; that they are tuples is seen later."""
    if not isinstance(reading, Reading) or not isinstance(reading.command, str):
        return False
    rows = list(reading.operands.values())
    for comings in reading.options.values():
        if not isinstance(comings, tuple):
            return False
        rows.extend(comings)
    return all([are_words(row) for row in rows])


def _further_counts(tapes, counts, marks):
    """How many marks of each tape are told behind some more; None if these are not the next ones."""
    had = dict(counts)
    for mark in marks:
        name = mark[1]
        tape = tapes.get(name, [])
        at = had.get(name, 0)
        if at == len(tape) or tape[at] != mark:
            return None
        had[name] = at + 1
    return tuple(sorted(had.items()))


def _what_is_there(parts):
    return {name: row for name, row in parts.items() if len(row) > 0}
