"""Two ways by one row of signs: pairs of places, and what the one way has told beyond the other."""

from switchyard.groups import OTHER, moves_by, with_sign

EVEN = 0
APART = 1


class Lags:
    """Lags of two ways, with numbers: EVEN if they have told the same, APART if they never will."""

    def __init__(self):
        self.rows = [(), None]
        self.numbers = {(): EVEN}
        self.further = {}
        self.turns = {}

    def later(self, lag, mark, other):
        """The lag when the first way has told one mark more, or none, (), and the second way another one."""
        if lag == APART or (lag == EVEN and mark == other):
            return lag
        asked = (lag, mark, other)
        if asked not in self.further:
            self.further[asked] = self._number(_extended(self.rows[lag], mark, other))
        return self.further[asked]

    def turned(self, lag):
        """The lag with the ways the other way round."""
        if lag == EVEN or lag == APART:
            return lag
        if lag not in self.turns:
            self.turns[lag] = self._number(turned_rows(self.rows[lag]))
        return self.turns[lag]

    def _number(self, rows):
        if rows is None:
            return APART
        if rows not in self.numbers:
            self.numbers[rows] = len(self.rows)
            self.rows.append(rows)
        return self.numbers[rows]


class Twins:
    """Pairs of places of two nets to which one row leads, each with at most two lags.

    A third lag is not needed: whatever row leads on to ends, at most one of two lags is evened out
    by it, so the other one tells as much, by a lesser row.
    """

    def __init__(self, one, other):
        self.one = one
        self.other = other
        self.signs = one.signs
        self.lags = Lags()
        self.kept = {}

    def first_state(self):
        return (0, 0, EVEN)

    def is_new(self, state):
        pair = (state[0], state[1])
        kept = self.kept.get(pair, ())
        if len(kept) > 1 or state[2] in kept or APART in kept:
            return False
        self.kept[pair] = (*kept, state[2])
        return True

    def is_goal(self, state):
        """Whether lists may end at both places, where both ways have told unlike things."""
        return state[2] != EVEN and self.one.ends[state[0]] and self.other.ends[state[1]]

    def moves(self, state):
        """Pairs of a sign and a state, each state once, by the least sign that leads to it."""
        place, beside, lag = state
        ones = self.one.grouped_live_moves(place)
        others = self.other.grouped_live_moves(beside)
        apart = {**ones, **others}
        del apart[OTHER]
        found = {}
        for sign in apart:
            for move in moves_by(ones, sign, self.signs[sign]):
                for another in moves_by(others, sign, self.signs[sign]):
                    _find(found, self._state(lag, move, another), sign)
        for move in ones[OTHER]:
            for another in others[OTHER]:
                for sign in self._needed_signs(lag, move[1], another[1], apart):
                    text = self.signs[sign]
                    _find(found, self._state(lag, with_sign(move, text), with_sign(another, text)), sign)
        return [(sign, later) for later, sign in found.items()]

    def _state(self, lag, move, another):
        """The state behind two moves."""
        return (move[0], another[0], self.lags.later(lag, move[1], another[1]))

    def _needed_signs(self, lag, mark, another, apart):
        """The signs that are not set apart, or just the least one if the lag behind all of them is the same."""
        signs = [sign for sign in range(len(self.signs)) if sign not in apart]
        tells_sign = OTHER in mark or OTHER in another
        if lag == APART or (lag == EVEN and mark == another) or not tells_sign:
            return signs[:1]
        return signs


class Selves:
    """As Twins, for one net and all its moves; the lesser number stands first in each pair."""

    def __init__(self, net):
        self.net = net
        self.twins = Twins(net, net)
        self.before = {}

    def first_state(self):
        return self.twins.first_state()

    def is_new(self, state):
        return self.twins.is_new(state)

    def is_goal(self, state):
        return self.twins.is_goal(state)

    def moves(self, state):
        """Pairs of a sign and a state, each state once, by the least sign that leads to it.

        What is right before each pair is kept.
        """
        place, beside, lag = state
        others = self.net.moves(beside)
        lags = self.twins.lags
        found = {}
        for sign, moves in self.net.moves(place).items():
            for behind, mark in moves:
                for behind_beside, mark_beside in others.get(sign, ()):
                    later = lags.later(lag, mark, mark_beside)
                    if behind <= behind_beside:
                        found.setdefault((behind, behind_beside, later), sign)
                    else:
                        found.setdefault((behind_beside, behind, lags.turned(later)), sign)
        if self.twins.kept[(place, beside)][0] == lag:
            for pair in {(behind, behind_beside): True for behind, behind_beside, _ in found}:
                self.before.setdefault(pair, []).append((place, beside))
        return [(sign, later) for later, sign in found.items()]

    def is_end(self, pair):
        return self.net.ends[pair[0]] and self.net.ends[pair[1]]

    def pairs(self):
        """All pairs that were found, each with its first lag."""
        return {pair: self.twins.lags.rows[kept[0]] for pair, kept in self.twins.kept.items()}


def _find(found, state, sign):
    """Note that a sign leads to a state, if no lesser one does."""
    found[state] = min(sign, found.get(state, sign))


def turned_rows(rows):
    """The rows of a lag, the other way round."""
    return tuple([(tape, other, row) for tape, row, other in rows])


def _extended(lag, mark, other):
    """The rows of a lag when both ways have told more; None if they never tell the same again."""
    rows = {tape: (row, back) for tape, row, back in lag}
    if mark != ():
        row, back = rows.get(mark[0], ((), ()))
        rows[mark[0]] = ((*row, mark[1]), back)
    if other != ():
        row, back = rows.get(other[0], ((), ()))
        rows[other[0]] = (row, (*back, other[1]))
    told = []
    for tape in sorted(rows):
        row, back = rows[tape]
        many = min(len(row), len(back))
        if row[:many] != back[:many]:
            return None
        if len(row) != len(back):
            told.append((tape, row[many:], back[many:]))
    return tuple(told)
