"""What the words of a list are, and the first one with which no list goes on."""

from switchyard.kinds import checked_words
from switchyard.machines import check_measures
from switchyard.nets import live_among
from switchyard.readings import live_layers
from switchyard.ways import FIRST, Ways


def kinds_in(table, words):
    """For each word what it is in some way to read the list, ascending."""
    row = checked_words(words)
    check_measures(table)
    layers = live_layers(Ways(table), row)
    told = []
    for layer in layers[:-1]:
        found = {_kind_told(marks): True for steps in layer.values() for _, marks in steps}
        told.append(tuple(sorted(found)))
    return tuple(told)


def first_wrong(table, words):
    """The number of the first word with which no list that has a reading goes on; None without, 0 without any list."""
    row = checked_words(words)
    check_measures(table)
    ways = Ways(table)
    live = _live_places(ways)
    places = {FIRST: True}
    if FIRST not in live:
        return 0
    for number, word in enumerate(row):
        steps = [step for place in places for step in ways.steps(place, word)]
        places = {place: True for place, _ in steps if place in live}
        if len(places) == 0:
            return number
    return None


def _kind_told(marks):
    """What a word is that leaves these marks."""
    if marks == ():
        return ("ends", ())
    what, name, text = marks[0]
    if what == "came":
        return ("options", tuple([option for told, option, _ in marks if told == "came"]))
    if what == "value":
        return ("value", (name,))
    if what == "word":
        return ("operand", (name,))
    return ("command", (text,))


def _live_places(ways):
    """The places from which some words lead on to an end of a list, as a dict."""
    words = _words_for_all(ways)
    before = {FIRST: []}
    left = [FIRST]
    while len(left) > 0:
        place = left.pop()
        steps = [step for word in words for step in ways.steps(place, word)]
        for behind in {later: True for later, _ in steps}:
            if behind not in before:
                before[behind] = []
                left.append(behind)
            before[behind].append(place)
    return live_among(before, [place for place in before if ways.may_end(place)])


def _words_for_all(ways):
    """Words that lead to all places to which any words lead.

    Letters in one word lead where words with one long name each do; and no word of these types is
    kept off by its dash.
    """
    words = ["--", *list(ways.table.commands)]
    for option in ways.options.values():
        words.append(f"--{option.name}")
        if option.takes[0] != "nothing":
            value = _word_of(option.takes[1])
            words.extend([value, f"--{option.name}={value}"])
    for part in ways.tables.values():
        words.extend([_word_of(operand.kind) for operand in part.operands])
    return list({word: True for word in words})


def _word_of(kind):
    """A word of a type: none that begins with a dash, but for numbers."""
    if kind[0] == "any":
        return ""
    return str(kind[1])
