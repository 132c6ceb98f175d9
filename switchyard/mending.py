"""The nearest list that has a reading."""

from switchyard.errors import BadPart, TooLarge
from switchyard.kinds import checked_words, is_integer
from switchyard.leads import Leads
from switchyard.machines import alphabet, check_measures
from switchyard.nets import Net, row_of, told_words
from switchyard.tellings import as_tuple

MOST_CHANGES = 9
MOST_LENGTH = 40

# What a change costs, where a sign of the row that is made costs 1: more than such a row is long.
CHANGE = 64


class Mended:
    """The least number of changes that lead to a list that has a reading, and the least one of these lists."""

    def __init__(self, number, words):
        self.number = number
        self.words = as_tuple(words)

    def __eq__(self, other):
        return isinstance(other, Mended) and self.number == other.number and self.words == other.words


class Changes:
    """The ways to change a row into one that a net reads, by at most so many changes.

    A state is a place of the net and how many signs of the row are behind. Its cost tells how many
    changes lead to it at least, and how many signs are made by these at least.
    """

    def __init__(self, net, row, most):
        self.net = net
        self.row = row
        self.leads = Leads(net)
        self.behind = {}
        self.costs = {(0, 0): 0}
        self.least = self._least_cost((most + 1) * CHANGE)

    def least_row(self):
        """The least row of those that are made by the fewest changes and are the shortest of these."""
        good = self._states_on_the_way()
        made = []
        states = self._with_left_out([(0, 0)], good)
        _, length = divmod(self.least, CHANGE)
        for _ in range(length):
            led = {}
            for state in states:
                for sign, cost, later in self._made(state):
                    if later in good and self.costs[later] == self.costs[state] + cost:
                        led.setdefault(sign, {})[later] = True
            sign = min(led)
            made.append(sign)
            states = self._with_left_out(list(led[sign]), good)
        return made

    def _least_cost(self, bound):
        """The cost of a row that is read; None if it is not below the bound."""
        waiting = {0: [(0, 0)]}
        for cost in range(bound):
            states = waiting.pop(cost, [])
            for state in states:
                if self.costs[state] == cost:
                    if self._is_goal(state):
                        return cost
                    for more, later in self._later(state):
                        total = cost + more
                        if self._at_least(total, later) < bound and total < self.costs.get(later, bound):
                            self.costs[later] = total
                            waiting.setdefault(total, []).append(later)
        return None

    def _at_least(self, cost, state):
        """What a row costs at least that is made by way of a state: what is left of it may be too short."""
        place, at = state
        lacking = self.leads.left(place) - (len(self.row) - at)
        return cost + max(lacking, 0) * CHANGE

    def _is_goal(self, state):
        place, at = state
        return at == len(self.row) and self.net.ends[place]

    def _later(self, state):
        """Pairs of a cost and the state to which it leads."""
        place, at = state
        if place not in self.behind:
            self.behind[place] = list({behind: True for _, behind in self.leads.moves(place)})
        later = [(CHANGE + 1, (behind, at)) for behind in self.behind[place]]
        if at < len(self.row):
            later.append((CHANGE, (place, at + 1)))
            later.extend([(CHANGE + 1, (behind, at + 1)) for behind in self.behind[place]])
            later.extend([(1, (behind, at + 1)) for behind, _ in self.net.moves(place).get(self.row[at], ())])
        return later

    def _made(self, state):
        """Triples of a sign that is made, its cost and the state to which it leads."""
        place, at = state
        made = []
        for sign, behind in self.leads.moves(place):
            made.append((sign, CHANGE + 1, (behind, at)))
            if at < len(self.row):
                cost = CHANGE + 1
                if sign == self.row[at]:
                    cost = 1
                made.append((sign, cost, (behind, at + 1)))
        return made

    def _states_on_the_way(self):
        """The states by way of which a goal costs the least."""
        at = len(self.row)
        left = [(place, at) for place, is_end in enumerate(self.net.ends) if is_end]
        left = [state for state in left if self.costs.get(state, -1) == self.least]
        good = {state: True for state in left}
        while len(left) > 0:
            for state in self._just_before(left.pop()):
                if state not in good:
                    good[state] = True
                    left.append(state)
        return good

    def _just_before(self, state):
        """The states from which one step leads here at just this one's cost."""
        place, at = state
        cost = self.costs[state]
        found = []
        if at > 0 and self.costs.get((place, at - 1), -1) == cost - CHANGE:
            found.append((place, at - 1))
        for earlier in self.net.befores().get(place, []):
            for before in [(earlier, at), (earlier, at - 1)]:
                if before in self.costs and (cost - self.costs[before], state) in self._later(before):
                    found.append(before)
        return found

    def _with_left_out(self, states, good):
        """These states, and those to which signs that are left out lead from them."""
        found = list(states)
        left = list(states)
        while len(left) > 0:
            place, at = left.pop()
            later = (place, at + 1)
            if later in good and later not in found and self.costs[later] == self.costs[(place, at)] + CHANGE:
                found.append(later)
                left.append(later)
        return found


def mend(table, words, most):
    """The Mended of a list, or None if it takes more changes than most."""
    check_measures(table)
    checked = checked_words(words)
    if not is_integer(most) or not 0 <= most <= MOST_CHANGES:
        raise BadPart("most")
    length = sum([len(word) + 1 for word in checked])
    if length > MOST_LENGTH:
        raise TooLarge(length)
    signs = alphabet([table], "".join(checked))
    changes = Changes(Net(table, signs, False), row_of(signs, checked), most)
    if changes.least is None:
        return None
    return Mended(changes.least // CHANGE, told_words(signs, changes.least_row()))
