"""What of a table lists can use, which beginnings of names are sure, and which further names are free."""

from switchyard.errors import BadPart
from switchyard.judgeerrors import BadName
from switchyard.leads import NEVER, Leads, least_lead, lefts
from switchyard.machines import CAME, STOP, alphabet, check_measures
from switchyard.nets import Net, told_words
from switchyard.parting import judge_extends
from switchyard.tables import Option, Table


class Uses:
    """Places of a net, each with whether a part of the table was used; goals are ends behind a use of it.

    What is known is from which places a use leads on, and how many signs it takes at least then.
    """

    def __init__(self, leads, part, known):
        self.leads = leads
        self.net = leads.net
        self.part = part
        self.lefts = lefts(leads.net.befores(), known)

    def left(self, state):
        """How many signs and ENDs lead at least from a state to a goal."""
        place, is_used = state
        if is_used:
            return self.leads.left(place)
        return self.lefts.get(place, NEVER)

    def moves(self, state):
        """Pairs of a sign and a state."""
        place, is_used = state
        found = []
        for sign, moves in self.net.moves(place).items():
            for behind, mark in moves:
                found.append((sign, (behind, is_used or self.part in _used_parts(self.net, behind, mark))))
        return found


def used_by(table):
    """For each part of a table and its commands' tables the least list that uses it, None without one."""
    check_measures(table)
    signs = alphabet([table], "")
    leads = Leads(Net(table, signs, False))
    known = _known_uses(leads)
    found = {}
    for part in sorted(_parts(table)):
        row = least_lead(Uses(leads, part, known.get(part, {})), [(0, False)])
        found[part] = None
        if row is not None:
            found[part] = told_words(signs, row)
    return found


def needless(table):
    """The parts that no list uses."""
    return tuple([part for part, words in used_by(table).items() if words is None])


def sure_beginnings(table):
    """For each long name its shortest beginning that is read as this option, and never as another one."""
    check_measures(table)
    meant = _meant_options(Net(table, alphabet([table], ""), False))
    found = {}
    for what, name in sorted(_parts(table)):
        if what == "option":
            begun = [name[:many] for many in range(1, len(name) + 1)]
            sure = [text for text in begun if list(meant.get(text, {})) == [name]]
            found[name] = None
            if len(sure) > 0:
                found[name] = sure[0]
    return found


def judge_free(table, name):
    """None if a further option of this name leaves all that is read as it is; otherwise the least Parted."""
    return judge_extends(table, _extended(table, name))


def _extended(table, name):
    """The table with a further option of this name."""
    try:
        options = [*table.options, Option(name, "", ("nothing",))]
        return Table(options, table.operands, table.commands, table.traits, table.conditions)
    except BadPart:
        raise BadName(name) from None


def _parts(table):
    """The parts of a table and its commands' tables that lists may use."""
    parts = [("command", command) for command in table.commands]
    for part in [table, *list(table.commands.values())]:
        parts.extend([("letter", option.name) for option in part.options if option.letter != ""])
        parts.extend([("operand", operand.name) for operand in part.operands])
        parts.extend([("option", option.name) for option in part.options])
    return parts


def _used_parts(net, behind, mark):
    """The parts that are used by a move to a place that tells this mark."""
    if mark == ():
        return []
    name, told = mark
    place = net.places[behind]
    if told == CAME and place[6] == ("letter", name, ""):
        return [("letter", name), ("option", name)]
    if told == CAME:
        return [("option", name)]
    if told == STOP and name == "":
        return [("command", place[0])]
    if told == STOP and name in net.machine.operands:
        return [("operand", name)]
    return []


def _known_uses(leads):
    """For each part the places at which it may be used at once, with how many signs lead then to an end."""
    net = leads.net
    known = {}
    for place in leads.lefts:
        for moves in net.moves(place).values():
            for behind, mark in moves:
                left = leads.left(behind) + 1
                for part in _used_parts(net, behind, mark):
                    uses = known.setdefault(part, {})
                    if left < uses.get(place, NEVER):
                        uses[place] = left
    return known


def _meant_options(net):
    """For each text behind two dashes the options as which it is read in some list that has a reading."""
    meant = {}
    for number, place in enumerate(net.all_places()):
        if place[6] != () and place[6][0] == "long":
            for moves in net.live_moves(number).values():
                for _, mark in moves:
                    if mark != ():
                        meant.setdefault(place[6][2], {})[mark[0]] = True
    return meant
