"""Lines that tell words, with blanks between, quotes and backslashes."""

from switchyard.errors import BadLine
from switchyard.kinds import checked_words

BARE = "ABCDEFGHIJKLMNOPQRSTUVWXYZabcdefghijklmnopqrstuvwxyz0123456789-_=./,:+@"

# Where one can be within a word: outside quotes, behind a backslash there, between `'`, between `"`,
# behind a backslash there.
OUTSIDE = "outside"
ESCAPED = "escaped"
SINGLE = "single"
DOUBLE = "double"
HELD = "held"
STATES = ("escaped", "held", "single", "double", "outside")


def split_line(line):
    """The list of the words that a line tells."""
    if not isinstance(line, str):
        raise BadLine(0)
    words = []
    parts = None
    at = 0
    while at < len(line):
        if line[at] == " ":
            if parts is not None:
                words.append("".join(parts))
            parts = None
            at += 1
        else:
            if parts is None:
                parts = []
            text, at = _part(line, at)
            parts.append(text)
    if parts is not None:
        words.append("".join(parts))
    return words


def write_line(words):
    """A line that tells these words, each bare or between `'`."""
    return " ".join([_written(word) for word in checked_words(words)])


def shortest_line(words):
    """The least one of the shortest lines that tell these words."""
    return " ".join([_shortest(word) for word in checked_words(words)])


def _part(line, at):
    """What stands at this place of a word, outside quotes, tells, and the place behind it."""
    sign = line[at]
    if sign == "'":
        return _single_quoted(line, at)
    if sign == '"':
        return _double_quoted(line, at)
    if sign != "\\":
        return sign, at + 1
    if at + 1 == len(line):
        raise BadLine(at + 1)
    return line[at + 1], at + 2


def _single_quoted(line, opened):
    closed = line.find("'", opened + 1)
    if closed < 0:
        raise BadLine(opened + 1)
    return line[opened + 1:closed], closed + 1


def _double_quoted(line, opened):
    told = []
    at = opened + 1
    while at < len(line) and line[at] != '"':
        if line[at] == "\\" and line[at + 1:at + 2] in ('"', "\\"):
            at += 1
        told.append(line[at])
        at += 1
    if at == len(line):
        raise BadLine(opened + 1)
    return "".join(told), at + 1


def _written(word):
    if word != "" and all([sign in BARE for sign in word]):
        return word
    return "'" + word.replace("'", "'\\''") + "'"


def _shortest(word):
    """The least one of the shortest texts that tell a word.

    What a text has told so far, and where it is, follows from its signs alone; so the least text
    takes the least sign each time, of those with which a shortest text can go on.
    """
    if word == "":
        return '""'
    costs = _costs(word)
    state = OUTSIDE
    at = 0
    text = []
    while costs[state][at] > 0:
        left = costs[state][at] - 1
        sign, state, at = min([step for step in _steps(word, state, at) if costs[step[1]][step[2]] == left])
        text.append(sign)
    return "".join(text)


def _costs(word):
    """For each state how many signs lack at least, by how many of the word's signs are told."""
    too_many = 4 * len(word) + 4
    costs = {state: [too_many] * (len(word) + 1) for state in STATES}
    costs[OUTSIDE][len(word)] = 0
    for at in range(len(word), -1, -1):
        # quotes may open and close without a sign told, so these states are looked at again
        for state in (*STATES, SINGLE, DOUBLE):
            for _, later, behind in _steps(word, state, at):
                costs[state][at] = min(costs[state][at], costs[later][behind] + 1)
    return costs


def _steps(word, state, at):
    """What a text may go on with: a sign, and the state and the number of told signs behind it."""
    sign = word[at:at + 1]
    steps = []
    if state == OUTSIDE:
        steps.extend([("'", SINGLE, at), ('"', DOUBLE, at), ("\\", ESCAPED, at)])
        if sign not in ("", " ", "\\", "'", '"'):
            steps.append((sign, OUTSIDE, at + 1))
    elif state == ESCAPED and sign != "":
        steps.append((sign, OUTSIDE, at + 1))
    elif state == SINGLE:
        steps.append(("'", OUTSIDE, at))
        if sign not in ("", "'"):
            steps.append((sign, SINGLE, at + 1))
    elif state == DOUBLE:
        steps.extend([('"', OUTSIDE, at), ("\\", HELD, at)])
        if sign not in ("", "\\", '"'):
            steps.append((sign, DOUBLE, at + 1))
    elif state == HELD:
        further = word[at + 1:at + 2]
        if sign in ("\\", '"'):
            steps.append((sign, DOUBLE, at + 1))
        if sign == "\\" and further not in ("", "\\", '"'):
            steps.append((further, DOUBLE, at + 2))
    return steps
