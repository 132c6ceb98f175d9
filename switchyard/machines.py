"""The machine of a table: its ways to read lists, sign by sign, and how large it is.

A place is one of `switchyard.ways` with a part behind it: () between two words, otherwise
(what, name, text), what is so within a word.
"""

from switchyard.errors import TooLarge
from switchyard.ways import Ways, raised, waiting

CAME = "came"
STOP = "stop"
END = ""
FIRST_PLACE = ("", 0, 0, 0, (), (), ())
CAPITALS = "ABCDEFGHIJKLMNOPQRSTUVWXYZ"
MOST_PLACES = 120
MOST_SIGNS = 1200


class Machine:
    """The moves of a table's places by signs and ENDs."""

    def __init__(self, table):
        self.table = table
        self.ways = Ways(table)
        self.beginnings = {"": _beginnings(tuple(table.commands))}
        self.operands = {}
        for part in self.ways.tables.values():
            for operand in part.operands:
                self.operands[operand.name] = operand
                self.beginnings[operand.name] = _beginnings_of(operand.kind)
            for option in part.options:
                if option.takes[0] != "nothing":
                    self.beginnings[option.name] = _beginnings_of(option.takes[1])

    def __eq__(self, other):
        return isinstance(other, Machine) and self.table == other.table

    def moves(self, place, sign):
        """The places to which a sign, or END, leads, each with the marks that are told."""
        part = place[6]
        if part == ():
            return self._first_moves(place, sign)
        if part[0] == "dash":
            return self._dash_moves(place, sign)
        if part[0] == "dashes":
            return self._dashes_moves(place, sign)
        if part[0] == "long":
            return self._long_moves(place, sign)
        if part[0] == "letter":
            return self._moves_behind_letter(place, sign)
        return self._text_moves(place, sign)

    def is_end(self, place):
        """Whether a list may end at a place."""
        return place[6] == () and self.ways.may_end(place[:6])

    def _first_moves(self, place, sign):
        path, group, words, over, pending, counts, _ = place
        moves = []
        if pending != ():
            moves.extend(self._text_moves((*place[:6], ("value", pending[0], "")), sign))
        if self.ways.has_to_go_on(place[:6]):
            return moves
        if over == 0 and sign == "-":
            moves.append(((path, group, words, over, (), counts, ("dash", "", "")), ()))
        had = words
        served = True
        for number, operand in enumerate(self.ways.tables[path].operands):
            if number >= group and served:
                if had != operand.many:
                    begun = (path, number, had, over, (), counts, ("operand", operand.name, ""))
                    moves.extend(self._text_moves(begun, sign))
                served = had >= operand.few
                had = 0
        if path == "" and served:
            moves.extend(self._text_moves((path, group, words, over, (), counts, ("command", "", "")), sign))
        return moves

    def _text_moves(self, place, sign):
        """The moves within what tells its signs: a value, an operand, a command."""
        what, name, text = place[6]
        beginnings = self.beginnings[name]
        if sign == END:
            if text == "--" or (beginnings is not None and not beginnings.get(text, False)):
                return []
            return [(self._place_behind(place), ((name, STOP),))]
        if beginnings is None:
            later = self._any_text(place, sign)
        else:
            later = text + sign
            if later not in beginnings:
                return []
        if later == "":
            return []
        return [((*place[:6], (what, name, later)), ((name, sign),))]

    def _any_text(self, place, sign):
        """What is kept of any word behind a further sign; an empty text if it cannot be."""
        path, _, _, over, _, _, part = place
        what, _, text = part
        if over > 0 or what == "attached":
            return "."
        if text == "" and sign == "-":
            return "-"
        if text != "-":
            return "."
        traits = self.ways.tables[path].traits
        if "dashed" not in traits:
            return ""
        if "ends" in traits and sign == "-":
            return "--"
        return "."

    def _place_behind(self, place):
        """The place between words behind a text that is a whole word."""
        path, group, words, over, pending, counts, part = place
        what, name, text = part
        if what == "command":
            later = 0
            if over == 2:
                later = 2
            return (text, 0, 0, later, (), counts, ())
        if what == "operand":
            operand = self.operands[name]
            if over == 0 and "mixed" not in self.ways.tables[path].traits:
                over = 1
            return (path, group, raised(words, operand.few, operand.many), over, pending, counts, ())
        if what == "value":
            takes = self.ways.options[name].takes
            had = pending[1]
            pending = ()
            if takes[0] == "some" and had + 1 != takes[3]:
                pending = (name, raised(had, takes[2], takes[3]))
        return (path, group, words, over, pending, counts, ())

    def _dash_moves(self, place, sign):
        if sign == "-":
            return [((*place[:6], ("dashes", "", "")), ())]
        return self._moves_by_letter(place, sign)

    def _moves_by_letter(self, place, sign):
        path, group, words, over, pending, counts, _ = place
        for option in self._known(place):
            if sign != END and option.letter == sign:
                later = self.ways.counted(counts, option.name)
                if later is None:
                    return []
                behind = (path, group, words, over, pending, later, ("letter", option.name, ""))
                return [(behind, ((option.name, CAME),))]
        return []

    def _dashes_moves(self, place, sign):
        path, group, words, _, _, counts, _ = place
        if sign == END:
            if "ends" in self.ways.tables[path].traits:
                return [((path, group, words, 2, (), counts, ()), ())]
            return []
        return self._further_long_moves(place, sign)

    def _further_long_moves(self, place, text):
        if any([option.name.startswith(text) for option in self._known(place)]):
            return [((*place[:6], ("long", "", text)), ())]
        return []

    def _long_moves(self, place, sign):
        path, group, words, over, pending, counts, part = place
        _, _, text = part
        if sign != END and sign != "=":
            return self._further_long_moves(place, text + sign)
        moves = []
        if over > 0:
            return moves
        for name in self.ways.meant(path, text):
            takes = self.ways.options[name].takes
            later = self.ways.counted(counts, name)
            if later is None:
                continue
            if sign == END:
                behind = (path, group, words, over, waiting(name, takes), later, ())
                moves.append((behind, ((name, CAME),)))
            elif takes[0] == "one" or takes[0] == "maybe":
                behind = (path, group, words, over, pending, later, ("attached", name, ""))
                moves.append((behind, ((name, CAME),)))
        return moves

    def _moves_behind_letter(self, place, sign):
        path, group, words, over, pending, counts, part = place
        _, name, _ = part
        takes = self.ways.options[name].takes
        if sign == END:
            return [((path, group, words, over, waiting(name, takes), counts, ()), ())]
        moves = []
        if takes[0] == "one" or takes[0] == "maybe":
            moves.extend(self._text_moves((*place[:6], ("attached", name, "")), sign))
        if takes[0] == "nothing" or takes[0] == "maybe":
            moves.extend(self._moves_by_letter(place, sign))
        return moves

    def _known(self, place):
        """The options that are known at a place: none where they are over."""
        if place[3] > 0:
            return ()
        return self.ways.known[place[0]]


def measures(table):
    """How large a table is: by what can be so between two words, and by the signs of its texts."""
    ways = Ways(table)
    places = sum([_places_at(ways, path) for path in ways.tables])
    signs = 8 + sum([len(name) for name in table.commands])
    for part in ways.tables.values():
        kinds = [operand.kind for operand in part.operands]
        for option in part.options:
            signs += len(option.name)
            if option.takes[0] != "nothing":
                kinds.append(option.takes[1])
        signs += sum([len(text) for kind in kinds for text in _texts_of(kind)])
    return (places, signs)


def check_measures(table):
    """Refuse a table that is too large for what is decided for all lists."""
    places, signs = measures(table)
    if places > MOST_PLACES:
        raise TooLarge(places)
    if signs > MOST_SIGNS:
        raise TooLarge(signs)


def alphabet(tables, further):
    """END, then, ascending, the signs by which lists are told apart by these tables."""
    signs = _signs_of(tables, further)
    return (END, *sorted([*signs, *_first_foreign(signs)]))


def foreign_signs(tables, further):
    """The two signs of an alphabet that stand for all that are none of it; none if two lack."""
    return _first_foreign(_signs_of(tables, further))


def _signs_of(tables, further):
    """The signs of an alphabet but for the foreign ones, as a dict."""
    signs = {"-": True, "=": True}
    for table in tables:
        for part in [table, *list(table.commands.values())]:
            for text in _texts_in(part):
                signs.update({sign: True for sign in text})
        for name in table.commands:
            signs.update({sign: True for sign in name})
    signs.update({sign: True for sign in further})
    return signs


def _first_foreign(signs):
    foreign = [sign for sign in CAPITALS if sign not in signs]
    if len(foreign) < 2:
        return ()
    return (foreign[0], foreign[1])


def _texts_in(table):
    """The texts whose signs matter: of options and their types, and of the operands' types."""
    texts = []
    for option in table.options:
        texts.extend([option.name, option.letter])
        if option.takes[0] != "nothing":
            texts.extend(_texts_of(option.takes[1]))
    for operand in table.operands:
        texts.extend(_texts_of(operand.kind))
    return texts


def _texts_of(kind):
    """The words of a type, of any words none."""
    if kind[0] == "any":
        return []
    if kind[0] == "chosen":
        return list(kind[1:])
    return [str(number) for number in range(kind[1], kind[2] + 1)]


def _beginnings(texts):
    """All beginnings of some texts, each with whether it is a whole one."""
    found = {text[:many]: False for text in texts for many in range(len(text) + 1)}
    for text in texts:
        found[text] = True
    return found


def _beginnings_of(kind):
    """All beginnings of a type's words; None if any word is one."""
    if kind[0] == "any":
        return None
    return _beginnings(_texts_of(kind))


def _places_at(ways, path):
    """What a table adds to the first measure: no fewer than its places between two words."""
    operands = ways.tables[path].operands
    places = 3
    if len(operands) > 0:
        places *= sum([_cap(operand.few, operand.many) + 1 for operand in operands])
    waits = 1
    for option in ways.known[path]:
        if option.takes[0] == "one":
            waits += 1
        elif option.takes[0] == "some":
            waits += _cap(option.takes[2], option.takes[3]) + 1
    places *= waits
    counted = list(ways.tables[path].options)
    if path != "":
        counted.extend(ways.table.options)
    for option in counted:
        places *= ways.limits[option.name] + 1
    return places


def _cap(few, many):
    if many is None:
        return few
    return many
