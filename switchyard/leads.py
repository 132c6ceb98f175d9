"""How many signs and ENDs lead on to ends, and the least rows by that."""

# More than any row has: nothing leads on to an end.
NEVER = 1000000000


class Leads:
    """The least rows that lead from places of a net to ends."""

    def __init__(self, net):
        self.net = net
        before = net.befores()
        self.lefts = lefts(before, {place: 0 for place, is_end in enumerate(net.ends) if is_end})

    def left(self, place):
        """How many signs and ENDs lead at least from a place to an end; NEVER if none do."""
        return self.lefts.get(place, NEVER)

    def moves(self, place):
        """Pairs of a sign and a place."""
        return [(sign, behind) for sign, moves in self.net.moves(place).items() for behind, _ in moves]


def lefts(before, known):
    """How many signs it takes at least from each thing, by what is right before each and how many are known of some.

    What is known may be bettered by what other things take. Things from which none lead on are left out.
    """
    waiting = {}
    for thing, many in known.items():
        waiting.setdefault(many, []).append(thing)
    found = {}
    many = 0
    while len(waiting) > 0:
        things = waiting.pop(many, [])
        for thing in things:
            if thing not in found:
                found[thing] = many
                further = [earlier for earlier in before.get(thing, []) if earlier not in found]
                waiting.setdefault(many + 1, []).extend(further)
        many += 1
    return found


def least_lead(space, states):
    """The least row by which a space leads from some of these states to a goal; None if none does."""
    left = min([space.left(state) for state in states], default=NEVER)
    if left == NEVER:
        return None
    row = []
    near = [state for state in states if space.left(state) == left]
    while left > 0:
        left -= 1
        led = {}
        for state in near:
            for sign, later in space.moves(state):
                if space.left(later) == left:
                    led.setdefault(sign, {})[later] = True
        sign = min(led)
        row.append(sign)
        near = list(led[sign])
    return tuple(row)
