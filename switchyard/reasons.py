"""Why the reader refuses a list."""

from switchyard.kinds import checked_words, is_of
from switchyard.reader import walked
from switchyard.ways import Ways, holds, is_dash_word, tables_on_the_way


def reasons(table, words):
    """The pairs that tell why the reader stops; none if it reads the list."""
    row = checked_words(words)
    ways = Ways(table)
    number, place, _ = walked(ways, row)
    if number < len(row):
        return tuple(_reasons_at_a_word(ways, place, row[number]))
    if ways.may_end(place):
        return ()
    return tuple(_reasons_at_the_end(ways, place))


def _reasons_at_the_end(ways, place):
    path, group, words, _, pending, counts = place
    told = []
    if ways.has_to_go_on(place):
        told.append(("word", pending[0]))
    had = words
    for operand in ways.tables[path].operands[group:]:
        if had < operand.few:
            told.append(("few", operand.name))
        had = 0
    if path == "" and len(ways.table.commands) > 0 and "alone" not in ways.table.traits:
        told.append(("none", ""))
    came = dict(counts)
    for table in tables_on_the_way(ways.table, path):
        told.extend([("low", option.name) for option in table.options if came.get(option.name, 0) < option.low])
        for number, condition in enumerate(table.conditions):
            if not holds(condition, came):
                told.append((condition[0], str(number)))
    return told


def _reasons_at_a_word(ways, place, word):
    path, group, words, over, pending, counts = place
    told = []
    if pending != ():
        name, _ = pending
        told.append((_type_or_dash(ways.options[name].takes[1], word), name))
        if ways.has_to_go_on(place):
            return told
    if is_dash_word(word):
        told.extend(_dash_word_reasons(ways, place, word))
    told.extend(_operand_reasons(ways, place, word))
    if path == "" and len(ways.table.commands) > 0:
        if word in ways.table.commands:
            told.append(("early", word))
        else:
            told.append(("command", word))
    if len(told) == 0:
        told.append(("extra", ""))
    return told


def _type_or_dash(kind, word):
    """Why a word that cannot be one of this type's cannot: it is none, or else a dash word."""
    if is_of(kind, word):
        return "dash"
    return "type"


def _dash_word_reasons(ways, place, word):
    path, _, _, over, _, counts = place
    if over > 0:
        return [("over", "")]
    if word == "--":
        return [("ends", "")]
    if word.startswith("--"):
        return _long_reasons(ways, path, counts, word[2:])
    return [_letter_reason(ways, path, counts, word[1:])]


def _long_reasons(ways, path, counts, rest):
    text, _, _ = rest.partition("=")
    meant = ways.meant(path, text)
    if len(meant) == 0:
        begun = [option for option in ways.known[path] if option.name.startswith(text)]
        if len(begun) > 1 and text != "":
            return [("several", text)]
        return [("unknown", text)]
    told = []
    for option in ways.known[path]:
        if option.name in meant:
            if ways.counted(counts, option.name) is None:
                told.append(("often", option.name))
            elif option.takes[0] == "nothing" or option.takes[0] == "some":
                told.append(("takes", option.name))
            else:
                told.append(("value", option.name))
    return told


def _letter_reason(ways, path, counts, letters):
    """What stops the letters of a word; something does, or the word would have been read."""
    known = {option.letter: option for option in ways.known[path]}
    at = 0
    while True:
        option = known.get(letters[at], None)
        if option is None:
            return ("letter", letters[at])
        counts = ways.counted(counts, option.name)
        if counts is None:
            return ("often", option.name)
        if option.takes[0] == "some":
            return ("takes", option.name)
        if option.takes[0] == "one":
            return ("value", option.name)
        at += 1


def _operand_reasons(ways, place, word):
    path, group, words, _, _, _ = place
    told = []
    had = words
    for operand in ways.tables[path].operands[group:]:
        if had == operand.many:
            told.append(("full", operand.name))
        else:
            told.append((_type_or_dash(operand.kind, word), operand.name))
        if had < operand.few:
            return told
        had = 0
    return told
