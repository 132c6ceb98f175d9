"""What is decided for all lists, for lists of a few signs, by trying all of them."""

from switchyard.machines import FIRST_PLACE, Machine, alphabet
from tests.oracle import CAME, FIRST, STOP, Oracle


def words_of(row):
    """The words of a row of signs and ENDs."""
    words, text = [], ""
    for sign in row:
        if sign == "":
            words.append(text)
            text = ""
        else:
            text += sign
    return tuple(words)


def length_of(words):
    return sum(len(word) + 1 for word in words)


def all_lists(tables, most, further=""):
    """All lists over the tables' alphabet up to a length that some of them may read, by [20]'s order.

    Each with the keys of its readings by each table.
    """
    oracles = [Oracle(table) for table in tables]
    signs = alphabet(tables, further)
    level = [((), [{(FIRST, ())} for _ in oracles])]
    for length in range(most + 1):
        later = []
        for row, found in level:
            if not row or row[-1] == "":
                yield words_of(row), [keys_at(oracle, ways) for oracle, ways in zip(oracles, found)]
            if length < most:
                for sign in signs:
                    led = [led_by(oracle, ways, sign) for oracle, ways in zip(oracles, found)]
                    if any(led):
                        later.append(((*row, sign), led))
        level = later


def led_by(oracle, ways, sign):
    later = set()
    for place, tapes in ways:
        for behind, marks in oracle.moves(place, sign):
            told = dict(tapes)
            for tape, mark in marks:
                told[tape] = told.get(tape, ()) + (mark,)
            later.add((behind, tuple(sorted(told.items()))))
    return later


def keys_at(oracle, ways):
    return sorted({oracle.key(place, dict(tapes)) for place, tapes in ways if oracle.is_end(place)})


def like(key):
    """What of a reading's key counts for being like."""
    command, options, operands = key
    return (command, tuple(one for one in options if one[1]), tuple(one for one in operands if one[1]))


def least_twice(table, most):
    for words, (keys,) in all_lists([table], most):
        if len(keys) > 1:
            return words, keys
    return None


def least_parted(one, other, most, both_ways):
    for words, (ones, others) in all_lists([one, other], most):
        if (ones or (both_ways and others)) and [like(key) for key in ones] != [like(key) for key in others]:
            return words, ones, others
    return None


def least_refused(table, most):
    oracle = Oracle(table)
    for words, (keys,) in all_lists([table], most):
        if keys and isinstance(oracle.read(words), int):
            return words
    return None


def least_spelled(table, key, most):
    """The least list with a reading of this key, by all rows whose ways tell a beginning of it."""
    oracle, goal = Oracle(table), tapes_of(key)
    signs = alphabet([table], "".join(mark for marks in goal.values() for mark in marks if len(mark) == 1))
    level = [((), {(FIRST, ())})]
    for length in range(most + 1):
        later = []
        for row, found in level:
            if (not row or row[-1] == "") and key in keys_at(oracle, found):
                return words_of(row)
            for sign in signs:
                led = {way for way in led_by(oracle, found, sign) if begins(goal, way[1])}
                if led:
                    later.append(((*row, sign), led))
        level = later
    return None


def tapes_of(key):
    command, options, operands = key
    tapes = {"": (*command, STOP) if command else ()}
    for name, comings in options:
        tapes[name] = tuple(mark for values in comings for mark in [CAME, *(sign for value in values for sign in [*value, STOP])])
    for name, words in operands:
        tapes[name] = tuple(sign for word in words for sign in [*word, STOP])
    return tapes


def begins(goal, tapes):
    return all(goal.get(tape, ())[:len(marks)] == marks for tape, marks in tapes)


def paired(table):
    """All pairs of places of a table that one row leads to, with the pairs that follow each by the marks."""
    machine = Machine(table)
    signs = alphabet([table], "")
    found = {(FIRST_PLACE, FIRST_PLACE): []}
    left = list(found)
    while left:
        pair = left.pop()
        for sign in signs:
            for behind, marks in machine.moves(pair[0], sign):
                for beside, others in machine.moves(pair[1], sign):
                    later, told = (behind, beside), (marks, others)
                    if later[0] > later[1]:
                        later, told = (beside, behind), (others, marks)
                        found[pair].append((later, told, True))
                    else:
                        found[pair].append((later, told, False))
                    if later not in found:
                        found[later] = []
                        left.append(later)
    return machine, found


def live_of(machine, found):
    live = {pair for pair in found if machine.is_end(pair[0]) and machine.is_end(pair[1])}
    grown = True
    while grown:
        more = {pair for pair, later in found.items() if pair not in live and any(one[0] in live for one in later)}
        grown = bool(more)
        live |= more
    return live


def led_lag(lag, told, is_turned):
    """The lag behind a move; None if both ways have told unlike things for good."""
    rows = {tape: (list(other), list(row)) if is_turned else (list(row), list(other)) for tape, row, other in lag}
    for side, marks in enumerate(told):
        for tape, mark in marks:
            rows.setdefault(tape, ([], []))[side].append(mark)
    kept = []
    for tape, (row, other) in sorted(rows.items()):
        while row and other:
            if row.pop(0) != other.pop(0):
                return None
        if row or other:
            kept.append((tape, tuple(row), tuple(other)))
    return tuple(kept)


def is_clear_paper(table, lags, dead):
    """Whether a paper shows that a table is clear, step by step."""
    machine, found = paired(table)
    live = live_of(machine, found)
    if set(lags) != live or sorted(dead) != sorted(set(found) - live) or any(lags.get(pair) for pair in [(FIRST_PLACE, FIRST_PLACE)]):
        return False
    for pair, lag in lags.items():
        if machine.is_end(pair[0]) and machine.is_end(pair[1]) and lag != ():
            return False
        for later, told, is_turned in found[pair]:
            if later in live and led_lag(lag, told, is_turned) != lags[later]:
                return False
    return True


def row_of(words):
    return tuple(sign for word in words for sign in [*word, ""])


def rows_behind(table, signs, row, most):
    """All rows of at most so many further signs that the machine goes on with, by [20]'s order, and their places."""
    oracle = Oracle(table)
    level = [((), {FIRST})]
    for sign in row:
        level = [((), {behind for place in level[0][1] for behind, _ in oracle.moves(place, sign)})]
    for length in range(most + 1):
        later = []
        for told, places in level:
            yield told, [place for place in places if oracle.is_end(place)]
            if length < most:
                for sign in signs:
                    led = {behind for place in places for behind, _ in oracle.moves(place, sign)}
                    if led:
                        later.append(((*told, sign), led))
        level = later


def lists_read(table, signs, most):
    """The rows of all lists up to a length that have a reading, by [20]'s order."""
    return [row for row, ends in rows_behind(table, signs, (), most) if ends]


def least_behind(table, signs, row, most):
    """For each next sign the least list that begins with a row and it, with at most so many further signs."""
    least = {}
    for told, ends in rows_behind(table, signs, row, most):
        if told and ends:
            least.setdefault(told[0], words_of((*row, *told)))
    return least


def least_uses(table, most):
    """For each part that is used in a list up to a length the least one."""
    oracle = Oracle(table)
    groups = {one.name for part in [table, *table.commands.values()] for one in part.operands}
    level, used = [((), {(FIRST, frozenset())})], {}
    for length in range(most + 1):
        later = []
        for row, found in level:
            for place, parts in found:
                if oracle.is_end(place):
                    for part in parts:
                        used.setdefault(part, words_of(row))
            for sign in alphabet([table], "") if length < most else ():
                led = {(behind, parts | parts_told(behind, marks, groups)) for place, parts in found
                       for behind, marks in oracle.moves(place, sign)}
                if led:
                    later.append(((*row, sign), led))
        level = later
    return used


def parts_told(behind, marks, groups):
    parts = set()
    for tape, mark in marks:
        if mark == CAME:
            parts.add(("option", tape))
            if behind[6][0:1] == ("letter",):
                parts.add(("letter", tape))
        elif tape == "" and mark == STOP:
            parts.add(("command", behind[0]))
        elif tape in groups:
            parts.add(("operand", tape))
    return frozenset(parts)


def meant_texts(table):
    """All pairs of a text behind two dashes and an option as which some list that has a reading has it, by the machine."""
    machine, signs = Machine(table), alphabet([table], "")
    found, left = {FIRST_PLACE: []}, [FIRST_PLACE]
    while left:
        place = left.pop()
        for sign in signs:
            for behind, marks in machine.moves(place, sign):
                found[place].append((behind, marks))
                if behind not in found:
                    found[behind] = []
                    left.append(behind)
    live, grown = {place for place in found if machine.is_end(place)}, True
    while grown:
        more = {place for place in found if place not in live and any(behind in live for behind, _ in found[place])}
        grown = bool(more)
        live |= more
    return {(place[6][2], marks[0][0]) for place in found if place[6][0:1] == ("long",)
            for behind, marks in found[place] if marks and behind in live}


def texts_in_lists(table, most):
    """As meant_texts, by all lists up to a length."""
    oracle, told = Oracle(table), set()
    level = [((), {(FIRST, frozenset())})]
    for length in range(most + 1):
        later = []
        for row, found in level:
            for place, pairs in found:
                if oracle.is_end(place):
                    told |= pairs
            for sign in alphabet([table], "") if length < most else ():
                led = set()
                for place, pairs in found:
                    for behind, marks in oracle.moves(place, sign):
                        is_long = place[6][0:1] == ("long",) and marks
                        led.add((behind, pairs | {(place[6][2], marks[0][0])} if is_long else pairs))
                if led:
                    later.append(((*row, sign), led))
        level = later
    return told


def sure_texts(table, pairs=None):
    """What [33] tells, by all pairs of texts and options."""
    pairs, told = meant_texts(table) if pairs is None else pairs, {}
    for part in [table, *table.commands.values()]:
        for option in part.options:
            texts = [option.name[:many + 1] for many in range(len(option.name))]
            sure = [text for text in texts if {name for other, name in pairs if other == text} == {option.name}]
            told[option.name] = sure[0] if sure else None
    return told


def least_readers_parted(one, other, most, both_ways):
    """The least list that two readers don't read alike, with the keys of what they read."""
    oracles = [Oracle(one), Oracle(other)]
    for words, _ in all_lists([one, other], most):
        keys = [None if isinstance(told, int) else told for told in [oracle.read(words) for oracle in oracles]]
        if keys[0] is not None or (both_ways and keys[1] is not None):
            if None in keys or like(keys[0]) != like(keys[1]):
                return words, *keys
    return None


def kinds_told(table, words):
    """What [37] tells of words, by all ways to read each of them."""
    oracle = Oracle(table)
    found = {(FIRST, ())}
    for word in words:
        found = {(places[-1], (*kinds, kind_of(table, word, places, marks))) for place, kinds in found
                 for places, marks in oracle.words_ways(place, word)}
    kept = {kinds for place, kinds in found if oracle.is_end(place)}
    return tuple(tuple(sorted({kinds[at] for kinds in kept})) for at in range(len(words)))


def kind_of(table, word, places, marks):
    names = tuple(tape for tape, mark in marks if mark == CAME)
    if names:
        return ("options", names)
    if word == "--" and places[1][6][0] == "dash":
        return ("ends", ())
    tape = marks[-1][0]
    if tape == "":
        return ("command", (word,))
    return ("value" if table.option(tape) else "operand", (tape,))


def changes_between(row, other):
    """The least number of changes that lead from one row to another one."""
    costs = list(range(len(other) + 1))
    for at, sign in enumerate(row, start=1):
        later = [at]
        for number, mark in enumerate(other, start=1):
            later.append(min(costs[number] + 1, later[-1] + 1, costs[number - 1] + (sign != mark)))
        costs = later
    return costs[-1]
