"""A second way to find readings: sign by sign, by points [21] to [23] of the document alone."""

CAME = "came"
STOP = "stop"
FIRST = ("", 0, 0, 0, (), (), ())




class Oracle:
    def __init__(self, table):
        self.table = table

    def path_table(self, path):
        return self.table.commands[path] if path else self.table

    def known(self, path, over):
        if over:
            return []
        own = list(self.path_table(path).options)
        if path and "far" in self.table.traits:
            own += list(self.table.options)
        return own

    def high_reached(self, counts, option):
        return option.high is not None and dict(counts).get(option.name, 0) >= option.high

    def come(self, counts, option):
        told = dict(counts)
        told[option.name] = told.get(option.name, 0) + 1
        return tuple(sorted(told.items()))

    def have_few(self, path, group, words, upto=None):
        operands = self.path_table(path).operands
        last = len(operands) if upto is None else upto
        for at in range(group, last):
            if (words if at == group else 0) < operands[at].few:
                return False
        return True

    def texts_of(self, kind):
        if kind[0] == "chosen":
            return list(kind[1:])
        return [str(number) for number in range(kind[1], kind[2] + 1)]

    def told_text(self, path, over, what, kind, text, sign):
        """The text behind a further sign; None for no move."""
        if kind[0] != "any":
            return text + sign if any(one.startswith(text + sign) for one in self.texts_of(kind)) else None
        if what in ("value", "operand") and over == 0:
            traits = self.path_table(path).traits
            if text == "":
                return "-" if sign == "-" else "."
            if text == "-":
                if "dashed" not in traits:
                    return None
                return "--" if "ends" in traits and sign == "-" else "."
            return "."
        return "."

    def is_whole(self, kind, text):
        if kind[0] == "any":
            return text != "--"
        return text in self.texts_of(kind)

    def kind_of(self, part, path):
        what, name, _ = part
        if what in ("value", "attached"):
            return self.table.option(name).takes[1]
        if what == "operand":
            return [one for one in self.path_table(path).operands if one.name == name][0].kind
        return ("chosen", *self.table.commands)

    def moves(self, place, sign):
        path, group, words, over, pending, counts, part = place
        if part == ():
            return self.begin(place, sign)
        if part[0] in ("value", "operand", "command", "attached"):
            return self.text_moves(place, sign)
        return getattr(self, "from_" + part[0])(place, sign)

    def begin(self, place, sign):
        path, group, words, over, pending, counts, _ = place
        table = self.path_table(path)
        found = []
        if pending:
            name, had = pending
            takes = self.table.option(name).takes
            found += self.text_moves((path, group, words, over, pending, counts, ("value", name, "")), sign)
            if takes[0] == "one" or had < takes[2]:
                return found
        if over == 0 and sign == "-":
            found.append(((path, group, words, over, (), counts, ("dash", "", "")), ()))
        for at in range(group, len(table.operands)):
            operand = table.operands[at]
            if at == group:
                if operand.many is not None and words >= operand.many:
                    continue
                had = words
            else:
                if not self.have_few(path, group, words, at):
                    continue
                had = 0
            begun = (path, at, had, over, (), counts, ("operand", operand.name, ""))
            found += self.text_moves(begun, sign)
        if path == "" and self.table.commands and self.have_few(path, group, words):
            found += self.text_moves((path, group, words, over, (), counts, ("command", "", "")), sign)
        return found

    def text_moves(self, place, sign):
        path, group, words, over, pending, counts, part = place
        what, name, text = part
        kind = self.kind_of(part, path)
        tape = "" if what == "command" else name
        if sign != "":
            told = self.told_text(path, over, what, kind, text, sign)
            if told is None:
                return []
            return [((path, group, words, over, pending, counts, (what, name, told)), ((tape, sign),))]
        if not self.is_whole(kind, text):
            return []
        marks = ((tape, STOP),)
        if what == "value":
            takes = self.table.option(name).takes
            had = pending[1] + 1
            if takes[0] == "one" or had == takes[3]:
                return [((path, group, words, over, (), counts, ()), marks)]
            return [((path, group, words, over, (name, had), counts, ()), marks)]
        if what == "operand":
            later = over
            if over == 0 and "mixed" not in self.path_table(path).traits:
                later = 1
            return [((path, group, words + 1, later, (), counts, ()), marks)]
        if what == "command":
            return [((text, 0, 0, 2 if over == 2 else 0, (), counts, ()), marks)]
        return [((path, group, words, over, pending, counts, ()), marks)]

    def from_dash(self, place, sign):
        path, group, words, over, pending, counts, _ = place
        if sign == "-":
            return [((path, group, words, over, (), counts, ("dashes", "", "")), ())]
        return self.by_letter(place, sign)

    def by_letter(self, place, sign):
        path, group, words, over, pending, counts, _ = place
        for option in self.known(path, over):
            if sign != "" and option.letter == sign and not self.high_reached(counts, option):
                later = self.come(counts, option)
                told = (path, group, words, over, (), later, ("letter", option.name, ""))
                return [(told, ((option.name, CAME),))]
        return []

    def from_dashes(self, place, sign):
        path, group, words, over, pending, counts, _ = place
        if sign == "":
            if "ends" in self.path_table(path).traits:
                return [((path, group, words, 2, (), counts, ()), ())]
            return []
        if any(option.name.startswith(sign) for option in self.known(path, over)):
            return [((path, group, words, over, (), counts, ("long", "", sign)), ())]
        return []

    def meant(self, path, over, text):
        known = self.known(path, over)
        whole = [option for option in known if option.name == text]
        if whole:
            return whole
        begun = [option for option in known if option.name.startswith(text)]
        traits = self.path_table(path).traits
        if "guessed" in traits or ("abbreviated" in traits and len(begun) == 1):
            return begun
        return []

    def from_long(self, place, sign):
        path, group, words, over, pending, counts, (_, _, text) = place
        found = []
        if sign != "" and any(option.name.startswith(text + sign) for option in self.known(path, over)):
            found.append(((path, group, words, over, (), counts, ("long", "", text + sign)), ()))
        if sign not in ("", "="):
            return found
        for option in self.meant(path, over, text):
            if self.high_reached(counts, option):
                continue
            later = self.come(counts, option)
            marks = ((option.name, CAME),)
            if sign == "":
                found.append(((path, group, words, over, self.waits(option), later, ()), marks))
            elif option.takes[0] in ("one", "maybe"):
                part = ("attached", option.name, "")
                found.append(((path, group, words, over, (), later, part), marks))
        return found

    def waits(self, option):
        return (option.name, 0) if option.takes[0] in ("one", "some") else ()

    def from_letter(self, place, sign):
        path, group, words, over, pending, counts, (_, name, _) = place
        option = self.table.option(name)
        if sign == "":
            return [((path, group, words, over, self.waits(option), counts, ()), ())]
        found = []
        if option.takes[0] in ("one", "maybe"):
            found += self.text_moves((path, group, words, over, (), counts, ("attached", name, "")), sign)
        if option.takes[0] in ("nothing", "maybe"):
            found += self.by_letter(place, sign)
        return found

    def is_end(self, place):
        path, group, words, over, pending, counts, part = place
        if part != ():
            return False
        if pending:
            takes = self.table.option(pending[0]).takes
            if takes[0] == "one" or pending[1] < takes[2]:
                return False
        if not self.have_few(path, group, words):
            return False
        if path == "" and self.table.commands and "alone" not in self.table.traits:
            return False
        came = dict(counts)
        for table in [self.table] + ([self.table.commands[path]] if path else []):
            for option in table.options:
                if came.get(option.name, 0) < option.low:
                    return False
            for condition in table.conditions:
                if condition[0] == "needs":
                    good = condition[1] not in came or condition[2] in came
                elif condition[0] == "without":
                    good = condition[1] not in came or condition[2] not in came
                else:
                    good = any(name in came for name in condition[1])
                if not good:
                    return False
        return True

    def keys(self, words):
        """The ascending keys of all readings of a list."""
        signs = [sign for word in words for sign in [*word, ""]]
        found = {(FIRST, ())}
        for sign in signs:
            later = set()
            for place, tapes in found:
                for behind, marks in self.moves(place, sign):
                    told = dict(tapes)
                    for tape, mark in marks:
                        told[tape] = told.get(tape, ()) + (mark,)
                    later.add((behind, tuple(sorted(told.items()))))
            found = later
        return sorted({self.key(place, dict(tapes)) for place, tapes in found if self.is_end(place)})

    def key(self, place, tapes):
        path = place[0]
        options, operands = {}, {}
        for table in [self.table] + ([self.table.commands[path]] if path else []):
            for option in table.options:
                options[option.name] = self.comings(tapes.get(option.name, ()))
            for operand in table.operands:
                operands[operand.name] = self.stopped(tapes.get(operand.name, ()))
        return (path, tuple(sorted(options.items())), tuple(sorted(operands.items())))

    def stopped(self, marks):
        texts, text = [], ""
        for mark in marks:
            if mark == STOP:
                texts.append(text)
                text = ""
            else:
                text += mark
        return tuple(texts)

    def comings(self, marks):
        parts = []
        for mark in marks:
            if mark == CAME:
                parts.append([])
            else:
                parts[-1].append(mark)
        return tuple(self.stopped(part) for part in parts)

    def words_ways(self, place, word):
        """All ways to read one word: pairs of the places on the way and the tapes' marks."""
        found = [((place,), ())]
        for sign in [*word, ""]:
            found = [((*places, behind), marks + told) for places, marks in found
                     for behind, told in self.moves(places[-1], sign)]
        return found

    def rank(self, places, marks, word):
        """The least one of all ways to read a word is the reader's, by the order of [11]."""
        before, behind = places[0], places[-1]
        what = places[1][6][0] if word else ""
        names = tuple(tape for tape, mark in marks if mark == CAME)
        length = sum(mark not in (CAME, STOP) for _, mark in marks)
        if names:
            text = word[2:].partition("=")[0]
            order = 4 if not word.startswith("--") else 2 if (text,) == names else 3
            return (order, 0, names, -length)
        if what == "dash":
            return (1, 0, names, 0)
        tape = marks[-1][0]
        if tape == "":
            return (8, 0, names, 0)
        option = self.table.option(tape)
        if option is not None:
            must = option.takes[0] == "one" or before[4][1] < option.takes[2]
            return (0 if must else 5, 0, names, 0)
        return (6 if behind[1] == before[1] else 7, behind[1], names, 0)

    def read(self, words):
        """The key to which the reader of [11] comes, or the number at which it stops."""
        place, tapes = FIRST, {}
        for number, word in enumerate(words):
            ways = [(self.rank(*way, word), way) for way in self.words_ways(place, word)]
            if not ways:
                return number
            ranks = [rank for rank, _ in ways]
            assert len(set(ranks)) == len(ranks), (words, ranks)
            places, marks = min(ways)[1]
            place = places[-1]
            for tape, mark in marks:
                tapes[tape] = tapes.get(tape, ()) + (mark,)
        return self.key(place, tapes) if self.is_end(place) else len(words)
