"""Sets of places to which a row of signs leads, by all ways that may still come to an end."""

from switchyard.groups import OTHER, signs_apart

NONE = 0


class Sets:
    """Sets of a net's places, with numbers; NONE is the empty one."""

    def __init__(self, net):
        self.net = net
        self.rows = []
        self.numbers = {}
        self.ends = []
        self.led = {}
        self._number(())
        self.first = NONE
        if len(net.live_moves(0)) > 0 or net.ends[0]:
            self.first = self._number((0,))

    def moves(self, number):
        """For each sign by which a set leads on, the set behind it."""
        if number not in self.led:
            led = {}
            groups = [self.net.grouped_live_moves(place) for place in self.rows[number]]
            for sign in signs_apart(groups):
                places = {behind: True for moves in groups for behind, _ in moves.get(sign, moves[OTHER])}
                led[sign] = self._number(tuple(sorted(places)))
            others = led.get(OTHER, NONE)
            behind = {sign: led.get(sign, others) for sign in range(len(self.net.signs))}
            self.led[number] = {sign: later for sign, later in behind.items() if later != NONE}
        return self.led[number]

    def _number(self, row):
        if row not in self.numbers:
            self.numbers[row] = len(self.rows)
            self.rows.append(row)
            self.ends.append(any([self.net.ends[place] for place in row]))
        return self.numbers[row]


class Sides:
    """The sets to which one row leads in two tables; a goal is a row that only the first one reads.

    With both_ways a goal is also one that only the second one reads.
    """

    def __init__(self, one, other, both_ways):
        self.one = one
        self.other = other
        self.both_ways = both_ways
        self.found = {}

    def first_state(self):
        return (self.one.first, self.other.first)

    def is_new(self, state):
        if state in self.found or (state[0] == NONE and not self.both_ways):
            return False
        self.found[state] = True
        return True

    def is_goal(self, state):
        is_read = self.one.ends[state[0]]
        is_read_by_other = self.other.ends[state[1]]
        if self.both_ways:
            return is_read != is_read_by_other
        return is_read and not is_read_by_other

    def moves(self, state):
        """Pairs of a sign and a state, each state once, by the least sign that leads to it."""
        ones = self.one.moves(state[0])
        others = self.other.moves(state[1])
        found = {}
        for sign in sorted({**ones, **others}):
            found.setdefault((ones.get(sign, NONE), others.get(sign, NONE)), sign)
        return [(sign, later) for later, sign in found.items()]
