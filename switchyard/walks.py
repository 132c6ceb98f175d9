"""The reader that never goes back, sign by sign.

A walk is the row of the places within a word at which the reader may be, the one that it prefers
first; between two words it is one place. Behind a word the reader goes on from the first place
of the row whose way is a whole word.
"""


class Walks:
    """The walks of the reader in a net, with numbers."""

    def __init__(self, net):
        self.net = net
        self.rows = []
        self.numbers = {}
        self.led = {}
        self.refused = self._number(())
        self.first = self._number((0,))

    def moves(self, number):
        """For each sign, ascending, that the reader does not refuse, the walk behind it."""
        if number not in self.led:
            found = {}
            for place in self.rows[number]:
                for sign, moves in self.net.moves(place).items():
                    found.setdefault(sign, []).extend(self._in_order([behind for behind, _ in moves]))
            self.led[number] = {sign: self._number(self._needed(found[sign])) for sign in sorted(found)}
        return self.led[number]

    def is_end(self, number):
        """Whether the reader reads what led here."""
        row = self.rows[number]
        return len(row) == 1 and self.net.ends[row[0]]

    def _in_order(self, row):
        """Places to which one sign leads from one place, in the order of the reader.

        A word that has begun with a dash may be an option before it may be anything else; the
        machine tells all others in this order.
        """
        parts = [self.net.places[number][6] for number in row]
        dashes = [number for number, part in zip(row, parts) if part == ("dash", "", "")]
        others = [number for number, part in zip(row, parts) if part != ("dash", "", "")]
        return dashes + others

    def _needed(self, row):
        """The places of a row up to the first one that surely is chosen."""
        needed = {}
        for number in row:
            needed[number] = True
            part = self.net.places[number][6]
            if part == () or part[2] == ".":
                return tuple(needed)
        return tuple(needed)

    def _number(self, row):
        if row not in self.numbers:
            self.numbers[row] = len(self.rows)
            self.rows.append(row)
        return self.numbers[row]
