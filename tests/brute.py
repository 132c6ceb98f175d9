"""What is decided for all lists, for lists of a few signs, by trying all of them."""

from switchyard.machines import FIRST_PLACE, Machine, alphabet
from tests.oracle import CAME, FIRST, STOP, Oracle


def words_of(row):
    """The words of a row of signs and ENDs."""
    words, text = [], ""
    for sign in row:
        if sign == "":
            words.append(text)
            text = ""
        else:
            text += sign
    return tuple(words)


def length_of(words):
    return sum(len(word) + 1 for word in words)


def all_lists(tables, most, further=""):
    """All lists over the tables' alphabet up to a length that some of them may read, by [20]'s order.

    Each with the keys of its readings by each table.
    """
    oracles = [Oracle(table) for table in tables]
    signs = alphabet(tables, further)
    level = [((), [{(FIRST, ())} for _ in oracles])]
    for length in range(most + 1):
        later = []
        for row, found in level:
            if not row or row[-1] == "":
                yield words_of(row), [keys_at(oracle, ways) for oracle, ways in zip(oracles, found)]
            if length < most:
                for sign in signs:
                    led = [led_by(oracle, ways, sign) for oracle, ways in zip(oracles, found)]
                    if any(led):
                        later.append(((*row, sign), led))
        level = later


def led_by(oracle, ways, sign):
    later = set()
    for place, tapes in ways:
        for behind, marks in oracle.moves(place, sign):
            told = dict(tapes)
            for tape, mark in marks:
                told[tape] = told.get(tape, ()) + (mark,)
            later.add((behind, tuple(sorted(told.items()))))
    return later


def keys_at(oracle, ways):
    return sorted({oracle.key(place, dict(tapes)) for place, tapes in ways if oracle.is_end(place)})


def like(key):
    """What of a reading's key counts for being like."""
    command, options, operands = key
    return (command, tuple(one for one in options if one[1]), tuple(one for one in operands if one[1]))


def least_twice(table, most):
    for words, (keys,) in all_lists([table], most):
        if len(keys) > 1:
            return words, keys
    return None


def least_parted(one, other, most, both_ways):
    for words, (ones, others) in all_lists([one, other], most):
        if (ones or (both_ways and others)) and [like(key) for key in ones] != [like(key) for key in others]:
            return words, ones, others
    return None


def least_refused(table, most):
    oracle = Oracle(table)
    for words, (keys,) in all_lists([table], most):
        if keys and isinstance(oracle.read(words), int):
            return words
    return None


def least_spelled(table, key, most):
    """The least list with a reading of this key, by all rows whose ways tell a beginning of it."""
    oracle, goal = Oracle(table), tapes_of(key)
    signs = alphabet([table], "".join(mark for marks in goal.values() for mark in marks if len(mark) == 1))
    level = [((), {(FIRST, ())})]
    for length in range(most + 1):
        later = []
        for row, found in level:
            if (not row or row[-1] == "") and key in keys_at(oracle, found):
                return words_of(row)
            for sign in signs:
                led = {way for way in led_by(oracle, found, sign) if begins(goal, way[1])}
                if led:
                    later.append(((*row, sign), led))
        level = later
    return None


def tapes_of(key):
    command, options, operands = key
    tapes = {"": (*command, STOP) if command else ()}
    for name, comings in options:
        tapes[name] = tuple(mark for values in comings for mark in [CAME, *(sign for value in values for sign in [*value, STOP])])
    for name, words in operands:
        tapes[name] = tuple(sign for word in words for sign in [*word, STOP])
    return tapes


def begins(goal, tapes):
    return all(goal.get(tape, ())[:len(marks)] == marks for tape, marks in tapes)


def paired(table):
    """All pairs of places of a table that one row leads to, with the pairs that follow each by the marks."""
    machine = Machine(table)
    signs = alphabet([table], "")
    found = {(FIRST_PLACE, FIRST_PLACE): []}
    left = list(found)
    while left:
        pair = left.pop()
        for sign in signs:
            for behind, marks in machine.moves(pair[0], sign):
                for beside, others in machine.moves(pair[1], sign):
                    later, told = (behind, beside), (marks, others)
                    if later[0] > later[1]:
                        later, told = (beside, behind), (others, marks)
                        found[pair].append((later, told, True))
                    else:
                        found[pair].append((later, told, False))
                    if later not in found:
                        found[later] = []
                        left.append(later)
    return machine, found


def live_of(machine, found):
    live = {pair for pair in found if machine.is_end(pair[0]) and machine.is_end(pair[1])}
    grown = True
    while grown:
        more = {pair for pair, later in found.items() if pair not in live and any(one[0] in live for one in later)}
        grown = bool(more)
        live |= more
    return live


def led_lag(lag, told, is_turned):
    """The lag behind a move; None if both ways have told unlike things for good."""
    rows = {tape: (list(other), list(row)) if is_turned else (list(row), list(other)) for tape, row, other in lag}
    for side, marks in enumerate(told):
        for tape, mark in marks:
            rows.setdefault(tape, ([], []))[side].append(mark)
    kept = []
    for tape, (row, other) in sorted(rows.items()):
        while row and other:
            if row.pop(0) != other.pop(0):
                return None
        if row or other:
            kept.append((tape, tuple(row), tuple(other)))
    return tuple(kept)


def is_clear_paper(table, lags, dead):
    """Whether a paper shows that a table is clear, step by step."""
    machine, found = paired(table)
    live = live_of(machine, found)
    if set(lags) != live or sorted(dead) != sorted(set(found) - live) or any(lags.get(pair) for pair in [(FIRST_PLACE, FIRST_PLACE)]):
        return False
    for pair, lag in lags.items():
        if machine.is_end(pair[0]) and machine.is_end(pair[1]) and lag != ():
            return False
        for later, told, is_turned in found[pair]:
            if later in live and led_lag(lag, told, is_turned) != lags[later]:
                return False
    return True
