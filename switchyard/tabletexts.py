"""Tables as texts."""

from switchyard.errors import BadText
from switchyard.kinds import FIGURES, are_names, is_letter, is_name, is_of
from switchyard.tables import TRAITS, Operand, Option, Table


class Line:
    """The words of one line, with their columns, taken one by one."""

    def __init__(self, number, text):
        self.number = number
        self.words = _placed_words(text)
        self.at = 0

    def has_more(self):
        """Whether a word is left."""
        return self.at < len(self.words)

    def taken(self, may_stand):
        """The next word, for which the function given has to hold."""
        if not self.has_more():
            column, word = self.words[-1]
            raise BadText(self.number, column + len(word))
        column, word = self.words[self.at]
        if not may_stand(word):
            raise BadText(self.number, column)
        self.at += 1
        return word

    def finish(self):
        """See that no word is left."""
        if self.has_more():
            raise BadText(self.number, self.words[self.at][0])


class Draft:
    """What the lines of one table have told so far."""

    def __init__(self):
        self.options = []
        self.operands = []
        self.traits = []
        self.conditions = []

    def made_table(self, commands):
        """The table that the lines tell."""
        return Table(self.options, self.operands, commands, self.traits, self.conditions)


def read_table(text):
    """The table that a text tells."""
    if not isinstance(text, str):
        raise BadText(0, 0)
    outer = Draft()
    inner = {}
    draft = outer
    for number, content in enumerate(text.split("\n"), start=1):
        line = Line(number, content)
        if not line.has_more():
            continue
        first = line.taken(_may_begin)
        if first == "command":
            name = line.taken(lambda word: is_name(word) and word not in inner)
            draft = Draft()
            inner[name] = draft
        else:
            take_line = LINES[first]
            take_line(line, draft)
        line.finish()
    return outer.made_table({command: part.made_table(None) for command, part in inner.items()})


def write_table(table):
    """The text that tells a table."""
    lines = _lines_of(table)
    for name, part in table.commands.items():
        lines.append(f"command {name}")
        lines.extend(_lines_of(part))
    return "".join([f"{line}\n" for line in lines])


def kind_text(kind):
    """A type, as texts have it."""
    if kind[0] == "any":
        return "any"
    if kind[0] == "chosen":
        names = ",".join(kind[1:])
        return f"chosen {names}"
    return f"number {kind[1]}..{kind[2]}"


def _placed_words(text):
    """The pairs of a column, from 1, and the word that begins there, up to a remark."""
    found = []
    column = 1
    for word in text.partition("#")[0].split(" "):
        if word != "":
            found.append((column, word))
        column += len(word) + 1
    return found


def _take_option(line, draft):
    name = line.taken(is_name)
    letter = line.taken(_is_letter_or_none)
    if letter == "-":
        letter = ""
    takes = _taken_takes(line)
    low, high = _taken_span(line)
    draft.options.append(Option(name, letter, takes, low, high))


def _take_operand(line, draft):
    name = line.taken(is_name)
    kind = _taken_kind(line)
    few, many = _taken_span(line)
    draft.operands.append(Operand(name, kind, few, many))


def _take_trait(line, draft):
    draft.traits.append(line.taken(lambda word: word in TRAITS and word not in draft.traits))


def _take_needs(line, draft):
    one = line.taken(is_name)
    draft.conditions.append(("needs", one, line.taken(is_name)))


def _take_without(line, draft):
    one = line.taken(is_name)
    draft.conditions.append(("without", one, line.taken(is_name)))


def _take_some(line, draft):
    names = [line.taken(is_name)]
    while line.has_more():
        names.append(line.taken(is_name))
    draft.conditions.append(("some", tuple(names)))


LINES = {
    "option": _take_option,
    "operand": _take_operand,
    "trait": _take_trait,
    "needs": _take_needs,
    "without": _take_without,
    "some": _take_some,
}


def _may_begin(word):
    return word == "command" or word in LINES


def _is_letter_or_none(word):
    return word == "-" or is_letter(word)


def _taken_takes(line):
    what = line.taken(lambda word: word in ("nothing", "one", "maybe", "some"))
    if what == "nothing":
        return ("nothing",)
    kind = _taken_kind(line)
    if what == "some":
        return ("some", kind, *_taken_span(line))
    return (what, kind)


def _taken_kind(line):
    what = line.taken(lambda word: word in ("any", "chosen", "number"))
    if what == "any":
        return ("any",)
    if what == "chosen":
        return ("chosen", *line.taken(_is_choice).split(","))
    low, _, high = line.taken(_is_range).partition("..")
    return ("number", int(low), int(high))


def _taken_span(line):
    word = line.taken(_is_span)
    if len(word) == 3:
        return int(word[0]), None
    return int(word[0]), int(word[3])


def _is_choice(word):
    return are_names(word.split(","))


def _is_range(word):
    low, _, high = word.partition("..")
    return _is_number(low) and _is_number(high) and int(low) <= int(high)


def _is_number(word):
    return is_of(("number", -99, 99), word)


def _is_span(word):
    if word[1:3] != ".." or len(word) > 4 or word[0] not in FIGURES:
        return False
    return len(word) == 3 or (word[3] in FIGURES and word[3] != "0" and word[0] <= word[3])


def _lines_of(table):
    """The lines of a table without those of its commands."""
    lines = []
    for option in table.options:
        letter = option.letter
        if letter == "":
            letter = "-"
        span = _span_text(option.low, option.high)
        lines.append(f"option {option.name} {letter} {_takes_text(option.takes)} {span}")
    for operand in table.operands:
        span = _span_text(operand.few, operand.many)
        lines.append(f"operand {operand.name} {kind_text(operand.kind)} {span}")
    for trait in table.traits:
        lines.append(f"trait {trait}")
    for condition in table.conditions:
        lines.append(_condition_text(condition))
    return lines


def _takes_text(takes):
    if takes[0] == "nothing":
        return "nothing"
    if takes[0] == "some":
        return f"some {kind_text(takes[1])} {_span_text(takes[2], takes[3])}"
    return f"{takes[0]} {kind_text(takes[1])}"


def _span_text(low, high):
    if high is None:
        return f"{low}.."
    return f"{low}..{high}"


def _condition_text(condition):
    if condition[0] == "some":
        return " ".join(["some", *condition[1]])
    return " ".join(condition)
