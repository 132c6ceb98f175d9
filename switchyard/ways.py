"""All ways to read a list by a table, word by word.

A place tells what is so between two words, by one way of reading those before:
(path, group, words, over, pending, counts), where

- path is the command, an empty text ahead of one;
- group is the number of the group of operands in turn, words how many words it has so far;
- over is 0, or 1 if options are over by an operand, or 2 if they are by `--`;
- pending is (), or the name of an option that waits for words and how many its last coming has;
- counts are the ascending pairs of an option's name and how often it came.

Numbers stay at the largest one that matters, so that a table has finitely many places.

A step is a place behind a word and the tuple of marks that it leaves: ("came", option, ""),
("value", option, word), ("word", operand, word) and ("command", "", word).
"""

from switchyard.kinds import is_of
from switchyard.tables import known_options

FIRST = ("", 0, 0, 0, (), ())


class Ways:
    """The ways to read lists by one table."""

    def __init__(self, table):
        self.table = table
        self.tables = {"": table}
        for name, part in table.commands.items():
            self.tables[name] = part
        self.options = {}
        self.limits = {}
        for part in self.tables.values():
            for option in part.options:
                self.options[option.name] = option
                self.limits[option.name] = _limit(part, option)
        self.known = {path: known_options(table, path) for path in self.tables}

    def steps(self, place, word):
        """All steps by a word, in the order in which a reader that never goes back tries them."""
        if self.has_to_go_on(place):
            return self._value_steps(place, word)
        path, group, words, over, _, counts = place
        free = (path, group, words, over, (), counts)
        steps = []
        if over == 0:
            steps.extend(self._end_steps(free, word))
            steps.extend(self._long_steps(free, word))
            steps.extend(self._letter_steps(free, word))
        steps.extend(self._value_steps(place, word))
        steps.extend(self._operand_steps(free, word))
        steps.extend(self._command_steps(free, word))
        return steps

    def may_end(self, place):
        """Whether a list may end at a place."""
        path, group, words, _, _, counts = place
        if self.has_to_go_on(place) or not self.are_served(path, group, words):
            return False
        if path == "" and len(self.table.commands) > 0 and "alone" not in self.table.traits:
            return False
        came = dict(counts)
        return all([_is_content(part, came) for part in tables_on_the_way(self.table, path)])

    def has_to_go_on(self, place):
        """Whether an option must have a further word."""
        _, _, _, _, pending, _ = place
        if pending == ():
            return False
        name, had = pending
        takes = self.options[name].takes
        return takes[0] == "one" or had < takes[2]

    def are_served(self, path, group, words):
        """Whether the operands from the group in turn on have their few."""
        had = words
        for operand in self.tables[path].operands[group:]:
            if had < operand.few:
                return False
            had = 0
        return True

    def may_stand(self, place, kind, word):
        """Whether a word can be a value or an operand of a type, dash words looked at."""
        path, _, _, over, _, _ = place
        if not is_of(kind, word):
            return False
        if over > 0 or kind[0] == "number" or not is_dash_word(word):
            return True
        traits = self.tables[path].traits
        return "dashed" in traits and not ("ends" in traits and word == "--")

    def counted(self, counts, name):
        """The counts when an option has come once more; None if it cannot."""
        came = dict(counts)
        before = came.get(name, 0)
        if before == self.options[name].high:
            return None
        if before < self.limits[name]:
            came[name] = before + 1
        return tuple(sorted(came.items()))

    def meant(self, path, text):
        """The ascending names of the known options that a text behind two dashes means."""
        names = sorted([option.name for option in self.known[path]])
        if text in names:
            return [text]
        begun = [name for name in names if text != "" and name.startswith(text)]
        traits = self.tables[path].traits
        if "guessed" in traits or ("abbreviated" in traits and len(begun) == 1):
            return begun
        return []

    def _value_steps(self, place, word):
        path, group, words, over, pending, counts = place
        if pending == ():
            return []
        name, had = pending
        takes = self.options[name].takes
        if not self.may_stand(place, takes[1], word):
            return []
        later = ()
        if takes[0] == "some" and had + 1 != takes[3]:
            later = (name, raised(had, takes[2], takes[3]))
        return [((path, group, words, over, later, counts), (("value", name, word),))]

    def _end_steps(self, place, word):
        path, group, words, _, pending, counts = place
        if word == "--" and "ends" in self.tables[path].traits:
            return [((path, group, words, 2, pending, counts), ())]
        return []

    def _long_steps(self, place, word):
        path, group, words, over, _, counts = place
        if not word.startswith("--"):
            return []
        text, sign, value = word[2:].partition("=")
        steps = []
        for name in self.meant(path, text):
            takes = self.options[name].takes
            later = self.counted(counts, name)
            if later is None:
                continue
            came = ("came", name, "")
            if sign == "":
                pending = waiting(name, takes)
                steps.append(((path, group, words, over, pending, later), (came,)))
            elif _can_be_attached(takes, value):
                steps.append(((path, group, words, over, (), later), (came, ("value", name, value))))
        return steps

    def _letter_steps(self, place, word):
        """The ways with fewer options come first, as each one's options begin the next one's."""
        path, group, words, over, _, counts = place
        if not word.startswith("-"):
            return []
        names = {option.letter: option.name for option in self.known[path]}
        steps = []
        marks = []
        for at in range(1, len(word)):
            name = names.get(word[at], None)
            if name is not None:
                counts = self.counted(counts, name)
            if name is None or counts is None:
                return steps
            takes = self.options[name].takes
            marks.append(("came", name, ""))
            if at + 1 == len(word):
                pending = waiting(name, takes)
                steps.append(((path, group, words, over, pending, counts), tuple(marks)))
            elif _can_be_attached(takes, word[at + 1:]):
                attached = ("value", name, word[at + 1:])
                steps.append(((path, group, words, over, (), counts), (*marks, attached)))
            if takes[0] == "one" or takes[0] == "some":
                return steps
        return steps

    def _operand_steps(self, place, word):
        path, group, words, over, _, counts = place
        operands = self.tables[path].operands
        later = over
        if over == 0 and "mixed" not in self.tables[path].traits:
            later = 1
        steps = []
        had = words
        for number in range(group, len(operands)):
            operand = operands[number]
            if had != operand.many and self.may_stand(place, operand.kind, word):
                marks = (("word", operand.name, word),)
                steps.append(((path, number, raised(had, operand.few, operand.many), later, (), counts), marks))
            if had < operand.few:
                return steps
            had = 0
        return steps

    def _command_steps(self, place, word):
        path, group, words, over, _, counts = place
        if path != "" or word not in self.table.commands or not self.are_served(path, group, words):
            return []
        later = 0
        if over == 2:
            later = 2
        return [((word, 0, 0, later, (), counts), (("command", "", word),))]


def tables_on_the_way(table, path):
    """The table, and its command's table if there is a command."""
    if path == "":
        return [table]
    return [table, table.commands[path]]


def raised(had, few, many):
    """One more than what was had, if that still matters."""
    if many is None:
        return min(had + 1, few)
    return min(had + 1, many)


def waiting(name, takes):
    """What is pending behind an option that came without a value in its word."""
    if takes[0] == "one" or takes[0] == "some":
        return (name, 0)
    return ()


def is_dash_word(word):
    """Whether a word begins with a dash and has more signs."""
    return len(word) > 1 and word.startswith("-")


def holds(condition, came):
    """Whether a condition holds, by how often the options came."""
    if condition[0] == "some":
        return any([came.get(name, 0) > 0 for name in condition[1]])
    one = came.get(condition[1], 0) > 0
    other = came.get(condition[2], 0) > 0
    if condition[0] == "needs":
        return other or not one
    return not (one and other)


def stands_in_condition(table, name):
    """Whether a condition of a table names this option."""
    return any([name in named_by(condition) for condition in table.conditions])


def named_by(condition):
    """The names of the options that a condition names."""
    if condition[0] == "some":
        return condition[1]
    return condition[1:]


def _limit(table, option):
    """Up to which number it matters how often an option came."""
    if option.high is not None:
        return option.high
    if stands_in_condition(table, option.name):
        return max(option.low, 1)
    return option.low


def _can_be_attached(takes, value):
    return (takes[0] == "one" or takes[0] == "maybe") and is_of(takes[1], value)


def _is_content(table, came):
    """Whether the options of a table came as often as they have to, and its conditions hold."""
    for option in table.options:
        if came.get(option.name, 0) < option.low:
            return False
    return all([holds(condition, came) for condition in table.conditions])
