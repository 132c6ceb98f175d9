"""The reader of a table as a net: the one way by which it reads a list.

A track is a walk of the reader and one of its places. Which of them is on the reader's way is seen
at the end of the word only; so several tracks may lead on for some signs, but for each list that
the reader reads just one way through them leads to an end.
"""

from switchyard.nets import live_among
from switchyard.sides import NONE
from switchyard.walks import Walks


class Tracks:
    """The tracks of the reader in a net, with numbers; they are asked as the places of a net are."""

    def __init__(self, net):
        self.signs = net.signs
        self.walks = Walks(net)
        self.walk_of = []
        self.firsts = []
        at = 0
        while at < len(self.walks.rows):
            self.walks.grouped_moves(at)
            self.firsts.append(len(self.walk_of))
            self.walk_of.extend([at for _ in self.walks.rows[at]])
            at += 1
        self.ends = [self.walks.is_end(walk) for walk in self.walk_of]
        self.led = [{} for _ in self.walk_of]
        self.before = {}
        for walk in range(len(self.walks.rows)):
            self._lead_on(walk)
        self.live = live_among(self.before, [track for track, is_end in enumerate(self.ends) if is_end])

    def grouped_live_moves(self, number):
        """The moves to tracks from which some row leads to an end, as `switchyard.groups` has them."""
        groups = {sign: () for sign in self.walks.grouped_moves(self.walk_of[number])}
        for sign, moves in self.led[number].items():
            groups[sign] = [move for move in moves if move[0] in self.live]
        return groups

    def _lead_on(self, walk):
        """Find the moves of a walk's tracks."""
        first = self.firsts[walk]
        behind = self.walks.grouped_moves(walk)
        for sign, steps in self.walks.steps(walk).items():
            later = self.firsts[behind[sign]]
            for number, (at, mark) in enumerate(steps.values(), start=later):
                self.led[first + at].setdefault(sign, []).append((number, mark))
                self.before.setdefault(number, []).append(first + at)


class LiveWalks:
    """The walks from which the reader may come to an end, asked as sets of places are; NONE for all others."""

    def __init__(self, tracks):
        self.walks = tracks.walks
        self.live = {tracks.walk_of[track]: True for track in tracks.live}
        self.ends = [self.walks.is_end(walk) for walk in range(len(self.walks.rows))]
        self.first = NONE
        if self.walks.first in self.live:
            self.first = self.walks.first

    def moves(self, number):
        """For each sign by which the reader reads on, the walk behind it."""
        return {sign: walk for sign, walk in self.walks.moves(number).items() if walk in self.live}
