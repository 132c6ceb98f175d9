"""Whether the reader that never goes back reads every list that has a reading."""

from switchyard.machines import alphabet, check_measures
from switchyard.nets import Net, least_row, told_words
from switchyard.reader import read
from switchyard.walks import Walks


class Refusals:
    """Where a row leads the reader and, by some way, the machine; a goal is a reading that is refused."""

    def __init__(self, net):
        self.net = net
        self.walks = Walks(net)
        self.found = {}
        self.groups = {}

    def first_state(self):
        return (self.walks.first, 0)

    def is_new(self, state):
        if state in self.found:
            return False
        self.found[state] = True
        return True

    def is_goal(self, state):
        return self.net.ends[state[1]] and not self.walks.is_end(state[0])

    def moves(self, state):
        """Pairs of a sign and a state, each state once, by the least sign that leads to it."""
        walk, place = state
        led = self.walks.moves(walk)
        found = []
        for places, signs in self._grouped(place):
            for later, sign in self._led_together(led, signs):
                found.extend([(sign, (later, behind)) for behind in places])
        return found

    def _grouped(self, place):
        """The places to which signs lead from a place, with the ascending signs that lead to just these.

        Most signs lead on alike, and these are many in large tables.
        """
        if place not in self.groups:
            found = {}
            for sign, moves in self.net.live_moves(place).items():
                found.setdefault(tuple([behind for behind, _ in moves]), []).append(sign)
            self.groups[place] = list(found.items())
        return self.groups[place]

    def _led_together(self, led, signs):
        """The walks to which some signs lead, each with the least sign."""
        walks = {}
        for sign in signs:
            walks.setdefault(led.get(sign, self.walks.refused), sign)
        return list(walks.items())


def judge_greedy(table):
    """None if the reader reads every list that has a reading, otherwise the least one that it refuses."""
    check_measures(table)
    signs = alphabet([table], "")
    row = least_row(Refusals(Net(table, signs, False)), None)
    if row is None:
        return None
    return told_words(signs, row)


def is_read_greedily(table, words):
    """Whether the reader reads a list."""
    check_measures(table)
    return bool(read(table, words))
