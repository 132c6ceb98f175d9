"""How many signs and ENDs it takes at least to tell what is left of a reading.

Each mark takes one sign or END. Beyond these, words take

- for a coming by a long name two dashes and a text that means it;
- for one by a letter, with a value in the same word, a dash; with values in the next words a dash
  and an END: such comings are the last ones of their words;
- for one by a letter alone nothing, if it stands in such a word; if there is none, all of these
  together a dash and an END, and so do those that come behind the last one of these words;
- for a dash word as an operand a `--` ahead of it, unless dash words may be operands there.
"""

from switchyard.machines import CAME, STOP

# What the comings that are left of a tape cost, how many are last ones of their words, how many are
# letters alone; then 1 if there are last ones, and 1 if letters alone come behind all of them.
NOTHING_LEFT = (0, 0, 0, 0, 0)

# More than any list takes: nothing leads on to an end that tells all.
TOO_MANY = 1000000000


class Costs:
    """The least costs of what is left of one reading, at places of a table's machine.

    What is left of a tape is told by how many of its marks were told.
    """

    def __init__(self, ways, reading, numbers, tapes):
        self.ways = ways
        self.command = reading.command
        self.numbers = numbers
        self.tapes = tapes
        self.shortest = {name: _shortest_text(ways, name) for name in numbers if name in ways.options}
        self.names = list(numbers)
        self.dearest = {}
        for name, shortest in self.shortest.items():
            self.dearest[name] = 2
            if ways.options[name].letter == "" or ("",) in reading.options[name]:
                self.dearest[name] = 2 + shortest
        self.rests = [[NOTHING_LEFT for _ in range(len(tape) + 1)] for tape in tapes]
        for name in self.shortest:
            self.rests[numbers[name]] = self._rests(name, reading.options[name])
        self.known = {path: self._numbers_of(options) for path, options in ways.known.items()}
        self.together = [self._numbers_of(table.options) for table in ways.tables.values()]
        if "far" in ways.table.traits:
            self.together = [[numbers[name] for name in self.shortest]]
        self.closed = {}
        self.is_end_needed = {path: self._needs_end(path, reading) for path in ways.tables}
        self.ends = {path: TOO_MANY for path in ways.tables}
        for path, table in ways.tables.items():
            if "ends" in table.traits:
                self.ends[path] = 3

    def left(self, place, counts):
        """How many signs and ENDs lead at least from a place to an end that tells all that is left."""
        path, group, _, over, pending, _, part = place
        if self._is_too_late(path, group, over, counts) or self._is_left_out(pending, part, counts):
            return TOO_MANY
        marks = sum([len(tape) - at for tape, at in zip(self.tapes, counts)])
        beyond = self._for_ends(path, over)
        for numbers in self.together:
            costs, _, alone, options, trailing = self._what_is_left(numbers, counts)
            beyond += costs
            if alone > 0 and options == trailing:
                beyond += 2
        if part != ():
            beyond += self._within_word(path, part, counts)
        return marks + max(beyond, 0)

    def _for_ends(self, path, over):
        """What a word `--` takes if one lacks; TOO_MANY if there can be none."""
        if over == 0 and self.is_end_needed[path]:
            return self.ends[path]
        if path != "" or over == 2 or self.command == "" or not self.is_end_needed[self.command]:
            return 0
        if over == 0:
            return min(self.ends[""], self.ends[self.command])
        return self.ends[self.command]

    def _is_too_late(self, path, group, over, counts):
        """Whether an option is left that can come no more, or an operand's word that can stand no more."""
        asked = (path, group, over)
        if asked not in self.closed:
            self.closed[asked] = (self._closed_options(path, over), self._closed_operands(path, group))
        options, operands = self.closed[asked]
        for number in options:
            if self.rests[number][counts[number]] != NOTHING_LEFT:
                return True
        return any([counts[number] < len(self.tapes[number]) for number in operands])

    def _is_left_out(self, pending, part, counts):
        """Whether a value is left of an option that waits no more."""
        waiting = [*pending[:1], *part[1:2]]
        for name in self.shortest:
            number = self.numbers[name]
            tape = self.tapes[number]
            at = counts[number]
            if at < len(tape) and tape[at] != CAME and name not in waiting:
                return True
        return False

    def _closed_options(self, path, over):
        """The options that can come no more, where they are over as [21] says."""
        still = []
        if over == 0:
            still.extend(self.known[path])
        if over < 2 and path == "" and self.command != "":
            still.extend(self.known[self.command])
        return [self.numbers[name] for name in self.shortest if self.numbers[name] not in still]

    def _closed_operands(self, path, group):
        closed = self._numbers_of(self.ways.tables[path].operands[:group])
        if path != "":
            closed.extend(self._numbers_of(self.ways.table.operands))
        return closed

    def _what_is_left(self, numbers, counts):
        """The sums of what is left of some tapes."""
        sums = NOTHING_LEFT
        for number in numbers:
            rest = self.rests[number][counts[number]]
            sums = tuple([one + other for one, other in zip(sums, rest)])
        return sums

    def _within_word(self, path, part, counts):
        """What was told of a word already, below 0, or what its end takes."""
        what, name, text = part
        if what == "dash":
            return -1
        if what == "dashes":
            return min([-2, *[self._of_long_name(number, text, counts) for number in self.known[path]]])
        if what == "long":
            return min([0, *[self._of_long_name(number, text, counts) for number in self.known[path]]])
        if what == "letter":
            return self._behind_letter(path, name, counts)
        return 0

    def _of_long_name(self, number, text, counts):
        """What was told of a long name, below 0, if a text begins this option's and it is left."""
        at = counts[number]
        name = self.names[number]
        if at == len(self.tapes[number]) or not name.startswith(text):
            return 0
        return max(self.shortest[name] - len(text), 0) - self.dearest[name]

    def _behind_letter(self, path, name, counts):
        number = self.numbers[name]
        tape = self.tapes[number]
        at = counts[number]
        what = self.ways.options[name].takes[0]
        if what == "some" or (what == "one" and tape[at:at + 1] == [STOP]):
            return 1
        if at < len(tape) and tape[at] != CAME:
            return 0
        _, last, alone, _, _ = self._what_is_left(self.known[path], counts)
        if last > 0:
            return -1
        for numbers in self.together:
            if number in numbers:
                _, last, _, _, _ = self._what_is_left(numbers, counts)
        if last == 0 and alone > 0:
            return -1
        return 1

    def _rests(self, name, comings):
        """What is left of an option's tape, by how many marks were told."""
        rests = [NOTHING_LEFT]
        for values in reversed(comings):
            costs, last, alone, some, trailing = rests[-1]
            rests.extend([rests[-1] for value in values for _ in range(len(value) + 1)])
            more, is_last, is_alone = self._coming(name, values)
            if is_last > 0 and last == 0:
                some = 1
                trailing = min(alone, 1)
            rests.append((costs + more, last + is_last, alone + is_alone, some, trailing))
        rests.reverse()
        return rests

    def _coming(self, name, values):
        """The costs of a coming, 1 if it is the last one of its word, 1 if it is a letter alone."""
        option = self.ways.options[name]
        what = option.takes[0]
        if option.letter == "" or (what == "maybe" and values == ("",)):
            return (2 + self.shortest[name], 0, 0)
        if what == "nothing" or values == ():
            return (0, 0, 1)
        if what == "some" or values[0] == "":
            return (2, 1, 0)
        return (1, 1, 0)

    def _needs_end(self, path, reading):
        """Whether a word `--` has to stand ahead of operands."""
        table = self.ways.tables[path]
        place = (path, 0, 0, 0, (), ())
        words = []
        for operand in table.operands:
            words.extend([(operand.kind, word) for word in reading.operands.get(operand.name, ())])
        if "mixed" not in table.traits:
            words = words[:1]
        return any([not self.ways.may_stand(place, kind, word) for kind, word in words])

    def _numbers_of(self, named):
        return [self.numbers[one.name] for one in named if one.name in self.numbers]


def _shortest_text(ways, name):
    """How long the shortest text is that means an option somewhere."""
    for many in range(1, len(name)):
        if any([name in ways.meant(path, name[:many]) for path in ways.tables]):
            return many
    return len(name)
