"""The least list that has a reading."""

from switchyard.machines import CAME, STOP, alphabet, check_measures
from switchyard.nets import Net, least_row, told_words
from switchyard.readings import told_reading
from switchyard.tellings import marks_of


class Tellings:
    """Where rows lead that tell what one reading tells, and how much of each tape is told."""

    def __init__(self, net, tapes):
        self.net = net
        self.numbers = {name: number for number, name in enumerate(tapes)}
        self.tapes = list(tapes.values())
        self.found = {}

    def first_state(self):
        return (0, tuple([0 for _ in self.tapes]))

    def is_new(self, state):
        if state in self.found:
            return False
        self.found[state] = True
        return True

    def is_goal(self, state):
        place, counts = state
        return self.net.ends[place] and counts == tuple([len(tape) for tape in self.tapes])

    def moves(self, state):
        """Pairs of a sign and a state."""
        place, counts = state
        found = []
        for sign, moves in self.net.live_moves(place).items():
            for behind, mark in moves:
                later = self._counted(counts, mark)
                if later is not None:
                    found.append((sign, (behind, later)))
        return found

    def _counted(self, counts, mark):
        """How much is told behind a mark; None if it is not the next one of its tape."""
        if mark == ():
            return counts
        tape, sign = mark
        number = self.numbers.get(tape, -1)
        if number < 0:
            return None
        at = counts[number]
        if at == len(self.tapes[number]) or self.tapes[number][at] != sign:
            return None
        return (*counts[:number], at + 1, *counts[number + 1:])


def spelled(table, reading):
    """The least list that has a reading; None if none has."""
    check_measures(table)
    if reading.command != "" and reading.command not in table.commands:
        return None
    marks = marks_of(reading)
    if told_reading(table, marks) != reading:
        return None
    signs = alphabet([table], "".join([text for _, _, text in marks]))
    row = least_row(Tellings(Net(table, signs, False), _tapes(marks)), None)
    if row is None:
        return None
    return told_words(signs, row)


def _tapes(marks):
    """The tapes of the machine that tell what these marks tell."""
    tapes = {}
    for what, name, text in marks:
        tape = tapes.setdefault(name, [])
        if what == "came":
            tape.append(CAME)
        else:
            tape.extend([*text, STOP])
    return tapes
