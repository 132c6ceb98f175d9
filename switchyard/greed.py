"""Whether the reader that never goes back reads every list that has a reading."""

from switchyard.machines import alphabet, check_measures
from switchyard.nets import Net, least_row, told_words
from switchyard.reader import read
from switchyard.walks import Walks


class Refusals:
    """Where a row leads the reader and, by some way, the machine; a goal is a reading that is refused."""

    def __init__(self, net):
        self.net = net
        self.walks = Walks(net)
        self.found = {}

    def first_state(self):
        return (self.walks.first, 0)

    def is_new(self, state):
        if state in self.found:
            return False
        self.found[state] = True
        return True

    def is_goal(self, state):
        return self.net.ends[state[1]] and not self.walks.is_end(state[0])

    def moves(self, state):
        """Pairs of a sign and a state."""
        led = self.walks.moves(state[0])
        found = []
        for sign, moves in self.net.live_moves(state[1]).items():
            walk = led.get(sign, self.walks.refused)
            found.extend([(sign, (walk, behind)) for behind, _ in moves])
        return found


def judge_greedy(table):
    """None if the reader reads every list that has a reading, otherwise the least one that it refuses."""
    check_measures(table)
    signs = alphabet([table], "")
    row = least_row(Refusals(Net(table, signs)), None)
    if row is None:
        return None
    return told_words(signs, row)


def is_read_greedily(table, words):
    """Whether the reader reads a list."""
    check_measures(table)
    return bool(read(table, words))
