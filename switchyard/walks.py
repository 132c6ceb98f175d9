"""The reader that never goes back, sign by sign.

A walk is the row of the places within a word at which the reader may be, the one that it prefers
first; between two words it is one place. Behind a word the reader goes on from the first place
of the row whose way is a whole word.
"""

from switchyard.groups import OTHER, moves_by, signs_apart


class Walks:
    """The walks of the reader in a net, with numbers."""

    def __init__(self, net):
        self.net = net
        self.rows = []
        self.numbers = {}
        self.grouped = {}
        self.led = {}
        self.refused = self._number(())
        self.first = self._number((0,))

    def moves(self, number):
        """For each sign, ascending, that the reader does not refuse, the walk behind it."""
        if number not in self.led:
            groups = self.grouped_moves(number)
            others = groups.get(OTHER, self.refused)
            behind = {sign: groups.get(sign, others) for sign in range(len(self.net.signs))}
            self.led[number] = {sign: walk for sign, walk in behind.items() if walk != self.refused}
        return self.led[number]

    def grouped_moves(self, number):
        """The walks behind some signs, and by OTHER behind all other ones."""
        if number not in self.grouped:
            steps = self.steps(number)
            self.grouped[number] = {sign: self._number(tuple(found)) for sign, found in steps.items()}
        return self.grouped[number]

    def steps(self, number):
        """The places of the walk behind some signs, and by OTHER behind all other ones, in its order.

        With each place stands where the one before it stood in this walk, and the mark that was told.
        """
        groups = [self.net.grouped_moves(place) for place in self.rows[number]]
        steps = {}
        for sign in signs_apart(groups):
            found = []
            for at, moves in enumerate(groups):
                found.extend([(at, *move) for move in moves_by(moves, sign, self.net.signs[sign])])
            steps[sign] = self._needed(found)
        return steps

    def is_end(self, number):
        """Whether the reader reads what led here."""
        row = self.rows[number]
        return len(row) == 1 and self.net.ends[row[0]]

    def _needed(self, steps):
        """The first step to each place, in the order of the reader, up to the first one that surely is chosen.

        A word that has begun with a dash may be an option before it may be anything else; the
        machine tells all others in this order.
        """
        parts = {behind: self.net.places[behind][6] for _, behind, _ in steps}
        dashes = [step for step in steps if parts[step[1]] == ("dash", "", "")]
        others = [step for step in steps if parts[step[1]] != ("dash", "", "")]
        needed = {}
        for at, behind, mark in [*dashes, *others]:
            if behind not in needed:
                needed[behind] = (at, mark)
            if parts[behind] == () or parts[behind][2] == ".":
                return needed
        return needed

    def _number(self, row):
        if row not in self.numbers:
            self.numbers[row] = len(self.rows)
            self.rows.append(row)
        return self.numbers[row]
