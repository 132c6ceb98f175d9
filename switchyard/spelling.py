"""The least list that has a reading."""

from switchyard.costs import TOO_MANY, Costs
from switchyard.kinds import are_as_many, are_of, may_have
from switchyard.machines import CAME, STOP, alphabet, check_measures
from switchyard.nets import Net, least_row, least_row_within, told_words
from switchyard.readings import told_reading
from switchyard.tellings import marks_of
from switchyard.ways import holds, tables_on_the_way


class Tellings:
    """Where rows lead that tell what one reading tells, and how much of each tape is told."""

    def __init__(self, net, reading, tapes):
        self.net = net
        self.numbers = {name: number for number, name in enumerate(tapes)}
        self.tapes = list(tapes.values())
        self.costs = Costs(net.machine.ways, reading, self.numbers, self.tapes)
        self.found = {}

    def first_state(self):
        return (0, tuple([0 for _ in self.tapes]))

    def is_new(self, state):
        if state in self.found:
            return False
        self.found[state] = True
        return True

    def is_goal(self, state):
        place, counts = state
        return self.net.ends[place] and counts == tuple([len(tape) for tape in self.tapes])

    def least_left(self, state):
        """How many signs and ENDs lead at least from a state to a goal."""
        return self.costs.left(self.net.places[state[0]], state[1])

    def moves(self, state):
        """Pairs of a sign and a state."""
        place, counts = state
        found = []
        for sign, moves in self.net.live_moves(place).items():
            for behind, mark in moves:
                later = self._counted(counts, mark)
                if later is not None:
                    found.append((sign, (behind, later)))
        return found

    def _counted(self, counts, mark):
        """How much is told behind a mark; None if it is not the next one of its tape."""
        if mark == ():
            return counts
        tape, sign = mark
        number = self.numbers.get(tape, -1)
        if number < 0:
            return None
        at = counts[number]
        if at == len(self.tapes[number]) or self.tapes[number][at] != sign:
            return None
        return (*counts[:number], at + 1, *counts[number + 1:])


def spelled(table, reading):
    """The least list that has a reading; None if none has."""
    check_measures(table)
    if reading.command != "" and reading.command not in table.commands:
        return None
    marks = marks_of(reading)
    if told_reading(table, marks) != reading or not _fits(table, reading):
        return None
    signs = alphabet([table], "".join([text for _, _, text in marks]))
    row = _least_row(Tellings(Net(table, signs, False), reading, _tapes(marks)))
    if row is None:
        return None
    return told_words(signs, row)


def _fits(table, reading):
    """Whether each option and operand may have what the reading tells of it, and the conditions hold.

    Most readings that no list has are found so, without a search.
    """
    came = {name: len(comings) for name, comings in reading.options.items()}
    for part in tables_on_the_way(table, reading.command):
        for option in part.options:
            comings = reading.options[option.name]
            if not are_as_many(option.low, option.high, comings):
                return False
            if not all([may_have(option.takes, values) for values in comings]):
                return False
        for operand in part.operands:
            words = reading.operands[operand.name]
            if not are_as_many(operand.few, operand.many, words) or not are_of(operand.kind, words):
                return False
        if not all([holds(condition, came) for condition in part.conditions]):
            return False
    return True


def _least_row(tellings):
    """The least row that tells all, or None.

    Mostly it is as long as the costs tell, or a little longer; then it is found without trying
    all turns in which options may come.
    """
    least = tellings.least_left(tellings.first_state())
    if least >= TOO_MANY:
        return None
    for most in range(least, least + 3):
        row = least_row_within(tellings, most)
        if row is not None:
            return row
    return least_row(tellings, None)


def _tapes(marks):
    """The tapes of the machine that tell what these marks tell."""
    tapes = {}
    for what, name, text in marks:
        tape = tapes.setdefault(name, [])
        if what == "came":
            tape.append(CAME)
        else:
            tape.extend([*text, STOP])
    return tapes
