"""Whether the reader that never goes back reads every list that has a reading."""

from switchyard.machines import alphabet, check_measures
from switchyard.nets import Net, least_row, told_words
from switchyard.reader import read
from switchyard.walks import Walks
from switchyard.ways import stands_in_condition


class Refusals:
    """Where a row leads the reader and, by some way, the machine; a goal is a reading that is refused.

    A state is a walk of the reader, how often options came on the machine's way, and its place. It
    is not needed if one was found where the reader is at the same walk, and the machine at a place
    that may do all that this one may, as there its options came less often.
    """

    def __init__(self, net):
        self.net = net
        self.walks = Walks(net)
        self.bounds = _bounds(net.machine.ways)
        self.kept = {}
        self.shapes = {}
        self.shaped = {}
        self.groups = {}

    def first_state(self):
        return (self.walks.first, 0, 0)

    def is_new(self, state):
        walk, _, place = state
        shape, _, counts = self._shaped(place)
        kept = self.kept.setdefault((walk, shape), [])
        for less in kept:
            if less == counts or self._may_do_all(less, counts):
                return False
        kept.append(counts)
        return True

    def is_goal(self, state):
        return self.net.ends[state[2]] and not self.walks.is_end(state[0])

    def moves(self, state):
        """Pairs of a sign and a state, each state once, by the least sign that leads to it."""
        walk, _, place = state
        led = self.walks.moves(walk)
        found = []
        for places, signs in self._grouped(place):
            for later, sign in self._led_together(led, signs):
                found.extend([(sign, (later, weight, behind)) for behind, weight in places])
        return found

    def _shaped(self, number):
        """What a place is but for its counts, as a number, how often options came, and each option."""
        if number not in self.shaped:
            place = self.net.places[number]
            came = dict(place[5])
            counts = tuple([came.get(name, 0) for name, _, _ in self.bounds])
            shape = self.shapes.setdefault((place[:5], place[6]), len(self.shapes))
            self.shaped[number] = (shape, sum(counts), counts)
        return self.shaped[number]

    def _may_do_all(self, counts, others):
        """Whether options that came so often may come as often and end as well as where others came."""
        for bound, one, other in zip(self.bounds, counts, others):
            _, low, stands = bound
            if one != other and (one > other or one < low or (stands and one == 0)):
                return False
        return True

    def _grouped(self, place):
        """The weighed places to which signs lead from a place, with the signs that lead to just these.

        Most signs lead on alike, and these are many in large tables.
        """
        if place not in self.groups:
            found = {}
            for sign, moves in self.net.live_moves(place).items():
                places = tuple([(behind, self._shaped(behind)[1]) for behind, _ in moves])
                found.setdefault(places, []).append(sign)
            self.groups[place] = list(found.items())
        return self.groups[place]

    def _led_together(self, led, signs):
        """The walks to which some signs lead, each with the least sign."""
        walks = {}
        for sign in signs:
            walks.setdefault(led.get(sign, self.walks.refused), sign)
        return list(walks.items())


def _bounds(ways):
    """For each option that is counted its name, its lower bound, and whether a condition names it."""
    bounds = []
    for table in ways.tables.values():
        for option in table.options:
            if ways.limits[option.name] > 0:
                bounds.append((option.name, option.low, stands_in_condition(table, option.name)))
    return bounds


def judge_greedy(table):
    """None if the reader reads every list that has a reading, otherwise the least one that it refuses."""
    check_measures(table)
    signs = alphabet([table], "")
    row = least_row(Refusals(Net(table, signs, False)), None)
    if row is None:
        return None
    return told_words(signs, row)


def is_read_greedily(table, words):
    """Whether the reader reads a list."""
    check_measures(table)
    return bool(read(table, words))
