"""Machines over an alphabet, with numbers for places, and the search for least rows of signs.

Signs are told by their numbers in the alphabet, in which END is the first one.
"""

from switchyard.groups import grouped
from switchyard.machines import FIRST_PLACE, Machine


class Net:
    """The places of a table, numbered as they are found, and their moves by the signs of an alphabet.

    Unless all places are asked for, one place stands for all that differ in a text alone which the
    same signs complete; there may be many of them, as of the numbers from 10 to 99.
    """

    def __init__(self, table, signs, with_all_places):
        self.machine = Machine(table)
        self.signs = signs
        self.alike = {}
        if not with_all_places:
            for name, beginnings in self.machine.beginnings.items():
                if name != "" and beginnings is not None:
                    self.alike[name] = _alike(beginnings)
        self.places = []
        self.numbers = {}
        self.ends = []
        self.led = []
        self.led_on = []
        self.earlier = None
        self.groups = {}
        self.live_groups = {}
        self._number(FIRST_PLACE)

    def moves(self, number):
        """The moves from a place: for each sign by which there are some, pairs of a place and a mark or ()."""
        if self.led[number] is None:
            self.led[number] = self._found_moves(self.places[number])
        return self.led[number]

    def live_moves(self, number):
        """The moves to places from which some row leads to an end."""
        if len(self.led_on) == 0:
            before = self.befores()
            self.led_on = live_moves_among(self.led, before, self.ends)
        return self.led_on[number]

    def grouped_moves(self, number):
        """The moves from a place as `switchyard.groups` has them."""
        if number not in self.groups:
            self.groups[number] = grouped(self.moves(number), self.signs)
        return self.groups[number]

    def grouped_live_moves(self, number):
        """The moves to places from which some row leads to an end, as `switchyard.groups` has them."""
        if number not in self.live_groups:
            self.live_groups[number] = grouped(self.live_moves(number), self.signs)
        return self.live_groups[number]

    def all_places(self):
        """All places to which rows lead, by their numbers; fewer may be numbered before."""
        at = 0
        while at < len(self.places):
            self.moves(at)
            at += 1
        return self.places

    def befores(self):
        """From which places a move leads to each place."""
        if self.earlier is None:
            self.all_places()
            self.earlier = earlier_by(self.led)
        return self.earlier

    def _number(self, place):
        number = self.numbers.get(place, -1)
        if number < 0:
            number = len(self.places)
            self.numbers[place] = number
            self.places.append(place)
            self.ends.append(self.machine.is_end(place))
            self.led.append(None)
        return number

    def _found_moves(self, place):
        found = {}
        for number, sign in enumerate(self.signs):
            moves = self.machine.moves(place, sign)
            if len(moves) > 0:
                found[number] = [(self._number(self._standing(behind)), _one_mark(marks)) for behind, marks in moves]
        return found

    def _standing(self, place):
        """The place that stands for this one."""
        if place[6] == () or place[6][1] not in self.alike:
            return place
        what, name, text = place[6]
        return (*place[:6], (what, name, self.alike[name][text]))


def earlier_by(led):
    """From which numbers a move leads to each number."""
    before = {}
    for at, moves in enumerate(led):
        for behind in {move[0]: True for found in moves.values() for move in found}:
            before.setdefault(behind, []).append(at)
    return before


def live_among(before, ends):
    """What leads to one of these ends, as a dict, by what is right before each thing."""
    live = {end: True for end in ends}
    left = list(ends)
    while len(left) > 0:
        for earlier in before.get(left.pop(), []):
            if earlier not in live:
                live[earlier] = True
                left.append(earlier)
    return live


def live_moves_among(led, before, ends):
    """For each number the moves that some row leads on to an end."""
    live = live_among(before, [number for number, is_end in enumerate(ends) if is_end])
    led_on = []
    for moves in led:
        kept = {}
        for sign, found in moves.items():
            good = [move for move in found if move[0] in live]
            if len(good) > 0:
                kept[sign] = good
        led_on.append(kept)
    return led_on


def least_row(space, most):
    """The least row of signs by which a space leads from its first state to a goal.

    None if none does, or none of at most so many signs; no bound if most is None. States that one
    row leads to stand together, and these groups in the order of their rows; so each state is
    found by its least row.
    """
    first = space.first_state()
    if space.is_new(first) and space.is_goal(first):
        return ()
    trail = [(0, 0)]
    groups = [(0, [first])]
    length = 0
    while len(groups) > 0 and length != most:
        length += 1
        later = []
        for number, states in groups:
            for sign, found in _led_to(space, states):
                trail.append((number, sign))
                if any([space.is_goal(state) for state in found]):
                    return _trailed_row(trail)
                later.append((len(trail) - 1, found))
        groups = later
    return None


def least_row_of_both(space, other):
    """The least row by which one of two spaces leads from its first state to a goal; None if none does."""
    row = least_row(space, None)
    most = None
    if row is not None:
        most = len(row)
    another = least_row(other, most)
    if row is None or (another is not None and (len(another) < len(row) or another < row)):
        return another
    return row


def least_row_within(space, most):
    """The least row of this many signs that leads a space from its first state to a goal.

    There must be no row of fewer signs that does. It goes on by the least sign as long as a state
    may come to a goal in time, and from each state again only if there is more time.
    """
    first = space.first_state()
    if space.is_goal(first):
        return ()
    tried = {}
    row = []
    choices = [_choices(space, [first])]
    while len(choices) > 0:
        if len(choices[-1]) == 0:
            choices.pop()
            row = row[:-1]
            continue
        sign, states = choices[-1].pop()
        left = most - len(choices)
        good = [state for state in states if tried.get(state, -1) < left and space.least_left(state) <= left]
        if any([space.is_goal(state) for state in good]):
            return (*row, sign)
        if len(good) > 0:
            for state in good:
                tried[state] = left
            row.append(sign)
            choices.append(_choices(space, good))
    return None


def row_of(signs, words):
    """The row of the signs of a list, as numbers."""
    numbers = {sign: number for number, sign in enumerate(signs)}
    row = []
    for word in words:
        row.extend([numbers[sign] for sign in word])
        row.append(0)
    return row


def told_words(signs, row):
    """The words of a row of signs."""
    words = []
    begun = []
    for number in row:
        if number == 0:
            words.append("".join(begun))
            begun = []
        else:
            begun.append(signs[number])
    return tuple(words)


def _alike(beginnings):
    """For each beginning of some texts the first one that the same signs complete."""
    completed = {}
    for text, is_whole in beginnings.items():
        if is_whole:
            for many in range(len(text) + 1):
                completed.setdefault(text[:many], []).append(text[many:])
    first = {}
    alike = {}
    for text, rests in completed.items():
        alike[text] = first.setdefault(tuple(sorted(rests)), text)
    return alike


def _one_mark(marks):
    """The mark that a move tells; () if it tells none. (None tells more than one.)"""
    if len(marks) == 0:
        return ()
    return marks[0]


def _led_to(space, states):
    """The new states to which each sign leads from some states, by ascending signs.

    Which of them are new is asked in this order, too, as it depends on what was found before; by
    one sign the lesser states stand first.
    """
    found = {}
    for state in states:
        for sign, later in space.moves(state):
            if sign in found:
                found[sign].append(later)
            else:
                found[sign] = [later]
    led = []
    for sign in sorted(found):
        new = [state for state in sorted(found[sign]) if space.is_new(state)]
        if len(new) > 0:
            led.append((sign, new))
    return led


def _choices(space, states):
    """The states to which each sign leads from some states, by descending signs."""
    found = {}
    for state in states:
        for sign, later in space.moves(state):
            found.setdefault(sign, {})[later] = True
    return [(sign, list(found[sign])) for sign in sorted(found, reverse=True)]


def _trailed_row(trail):
    """The signs that lead to the last group of a trail."""
    row = []
    at = len(trail) - 1
    while at > 0:
        at, sign = trail[at]
        row.append(sign)
    row.reverse()
    return tuple(row)
