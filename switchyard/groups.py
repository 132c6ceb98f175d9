"""Moves by groups of signs: from most places most signs lead on alike.

Grouped moves are a dict from numbers of signs to moves: END's, those of each sign that leads on
otherwise than most, and by OTHER those of all other signs. Where a mark tells the very sign by
which a move leads, OTHER stands for it there.
"""

OTHER = -1


def grouped(moves, signs):
    """The moves, which are a dict from numbers of signs, as grouped ones."""
    alike = {}
    for number in range(1, len(signs)):
        alike.setdefault(_without_sign(moves.get(number, ()), signs[number]), []).append(number)
    most = max([len(numbers) for numbers in alike.values()])
    groups = {0: moves.get(0, ())}
    for led, numbers in alike.items():
        if len(numbers) == most and OTHER not in groups:
            groups[OTHER] = led
        else:
            groups.update({number: moves[number] for number in numbers if number in moves})
            groups.update({number: () for number in numbers if number not in moves})
    return groups


def signs_apart(groups):
    """The signs by which some of several grouped moves lead on otherwise than most, and OTHER, as a dict."""
    return {sign: True for moves in groups for sign in moves}


def moves_by(groups, number, sign):
    """The moves of grouped ones by a sign."""
    if number in groups:
        return groups[number]
    return [with_sign(move, sign) for move in groups[OTHER]]


def with_sign(move, sign):
    """A move by OTHER as one by this sign."""
    behind, mark = move
    return (behind, _told(mark, OTHER, sign))


def _without_sign(moves, sign):
    return tuple([(behind, _told(mark, sign, OTHER)) for behind, mark in moves])


def _told(mark, sign, other):
    """A mark, with another sign if it tells this one."""
    if mark != () and mark[1] == sign:
        return (mark[0], other)
    return mark
