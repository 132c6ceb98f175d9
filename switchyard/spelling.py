"""The least list that has a reading."""

from switchyard.costs import Costs
from switchyard.machines import CAME, STOP, alphabet, check_measures
from switchyard.nets import Net, least_row, least_row_within, told_words
from switchyard.readings import told_reading
from switchyard.tellings import marks_of


class Tellings:
    """Where rows lead that tell what one reading tells, and how much of each tape is told."""

    def __init__(self, net, reading, tapes):
        self.net = net
        self.numbers = {name: number for number, name in enumerate(tapes)}
        self.tapes = list(tapes.values())
        self.costs = Costs(net.machine.ways, reading, self.numbers, self.tapes)
        self.found = {}

    def first_state(self):
        return (0, tuple([0 for _ in self.tapes]))

    def is_new(self, state):
        if state in self.found:
            return False
        self.found[state] = True
        return True

    def is_goal(self, state):
        place, counts = state
        return self.net.ends[place] and counts == tuple([len(tape) for tape in self.tapes])

    def least_left(self, state):
        """How many signs and ENDs lead at least from a state to a goal."""
        return self.costs.left(self.net.places[state[0]], state[1])

    def moves(self, state):
        """Pairs of a sign and a state."""
        place, counts = state
        found = []
        for sign, moves in self.net.live_moves(place).items():
            for behind, mark in moves:
                later = self._counted(counts, mark)
                if later is not None:
                    found.append((sign, (behind, later)))
        return found

    def _counted(self, counts, mark):
        """How much is told behind a mark; None if it is not the next one of its tape."""
        if mark == ():
            return counts
        tape, sign = mark
        number = self.numbers.get(tape, -1)
        if number < 0:
            return None
        at = counts[number]
        if at == len(self.tapes[number]) or self.tapes[number][at] != sign:
            return None
        return (*counts[:number], at + 1, *counts[number + 1:])


class Tape:
    """Where rows lead that tell what is told on one tape, and anything on all others."""

    def __init__(self, net, name, marks):
        self.net = net
        self.name = name
        self.marks = marks
        self.found = {}

    def first_state(self):
        return (0, 0)

    def is_new(self, state):
        if state in self.found:
            return False
        self.found[state] = True
        return True

    def is_goal(self, state):
        return self.net.ends[state[0]] and state[1] == len(self.marks)

    def moves(self, state):
        """Pairs of a sign and a state, each state once."""
        place, at = state
        found = {}
        for sign, moves in self.net.live_moves(place).items():
            for behind, mark in moves:
                if mark == () or mark[0] != self.name:
                    found.setdefault((behind, at), sign)
                elif at < len(self.marks) and self.marks[at] == mark[1]:
                    found.setdefault((behind, at + 1), sign)
        return [(sign, later) for later, sign in found.items()]


def spelled(table, reading):
    """The least list that has a reading; None if none has."""
    check_measures(table)
    if reading.command != "" and reading.command not in table.commands:
        return None
    marks = marks_of(reading)
    if told_reading(table, marks) != reading:
        return None
    signs = alphabet([table], "".join([text for _, _, text in marks]))
    tapes = _tapes(marks)
    net = Net(table, signs, False)
    for name in [*tapes, *reading.options, *reading.operands]:
        if least_row(Tape(net, name, tapes.get(name, [])), None) is None:
            return None
    row = _least_row(Tellings(net, reading, tapes))
    if row is None:
        return None
    return told_words(signs, row)


def _least_row(tellings):
    """The least row that tells all, or None.

    Mostly it is as long as the costs tell, or a little longer; then it is found without trying
    all turns in which options may come.
    """
    least = tellings.least_left(tellings.first_state())
    for most in range(least, least + 3):
        row = least_row_within(tellings, most)
        if row is not None:
            return row
    return least_row(tellings, None)


def _tapes(marks):
    """The tapes of the machine that tell what these marks tell."""
    tapes = {}
    for what, name, text in marks:
        tape = tapes.setdefault(name, [])
        if what == "came":
            tape.append(CAME)
        else:
            tape.extend([*text, STOP])
    return tapes
