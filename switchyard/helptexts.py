"""Help: what a program may be called with, for people."""

from switchyard.errors import BadPart
from switchyard.kinds import is_integer
from switchyard.tabletexts import kind_text

LEFT = 24


def help_text(table, name, width):
    """The help for a program with this name, in lines up to this width."""
    if not is_integer(width) or width < 40 or width > 200:
        raise BadPart("width")
    lines = _lines_of(table, name, width)
    for command, part in table.commands.items():
        lines.append("")
        lines.extend(_lines_of(part, f"{name} {command}", width))
    return "".join([f"{line}\n" for line in lines])


def _lines_of(table, name, width):
    """The lines of a table without those of its commands."""
    lines = _wrapped(["usage:", name, *_usage_words(table)], width, "", "  ")
    for option in table.options:
        lines.extend(_beside(_option_sign(option), _option_words(option), width))
    for operand in table.operands:
        often = _how_many(operand.few, operand.many, "words")
        words = f"{kind_text(operand.kind)}, {often}".split(" ")
        lines.extend(_beside(f"  {operand.name}", words, width))
    for condition in table.conditions:
        lines.extend(_wrapped(_condition_words(condition), width, "  ", "    "))
    return lines


def _wrapped(words, width, first, later):
    """Lines of words, with these blanks ahead of the first line and of later ones."""
    lines = []
    line = f"{first}{words[0]}"
    for word in words[1:]:
        if len(line) + 1 + len(word) <= width:
            line = f"{line} {word}"
        else:
            lines.append(line)
            line = f"{later}{word}"
    lines.append(line)
    return lines


def _beside(left, words, width):
    """Words to the right of what is to the left, or below it if that is too long."""
    blanks = " " * LEFT
    if len(left) < LEFT:
        return _wrapped(words, width, left.ljust(LEFT), blanks)
    return [left, *_wrapped(words, width, blanks, blanks)]


def _usage_words(table):
    words = []
    for option in table.options:
        words.append(_bounded(_long_sign(option), option.low, option.high))
    for operand in table.operands:
        words.append(_bounded(operand.name, operand.few, operand.many))
    if len(table.commands) > 0:
        names = "|".join(list(table.commands))
        if "alone" in table.traits:
            names = f"[{names}]"
        words.append(names)
    return words


def _bounded(text, low, high):
    """A text with the signs for what may lack and for what may come several times."""
    if low == 0:
        text = f"[{text}]"
    if high != 1:
        text = f"{text}..."
    return text


def _long_sign(option):
    """The long name and what it takes."""
    takes = option.takes
    if takes[0] == "maybe":
        return f"--{option.name}[=value]"
    if takes[0] == "one":
        return f"--{option.name} value"
    if takes[0] == "some" and takes[2] == 0:
        return f"--{option.name} [value]..."
    if takes[0] == "some":
        return f"--{option.name} value..."
    return f"--{option.name}"


def _option_sign(option):
    if option.letter == "":
        return f"      {_long_sign(option)}"
    return f"  -{option.letter}, {_long_sign(option)}"


def _option_words(option):
    takes = option.takes
    if takes[0] == "nothing":
        told = "nothing"
    elif takes[0] == "some":
        many = _how_many(takes[2], takes[3], "words")
        told = f"{kind_text(takes[1])} {many}"
    else:
        told = kind_text(takes[1])
    often = _how_many(option.low, option.high, "times")
    return f"{told}, {often}".split(" ")


def _how_many(low, high, what):
    if high is None and low == 0:
        return f"any number of {what}"
    if high is None:
        return f"at least {low} {what}"
    if low == high:
        return f"just {low} {what}"
    if low == 0:
        return f"at most {high} {what}"
    return f"{low} to {high} {what}"


def _condition_words(condition):
    if condition[0] == "needs":
        return [f"--{condition[1]}", "needs", f"--{condition[2]}"]
    if condition[0] == "without":
        return [f"--{condition[1]}", "not", "with", f"--{condition[2]}"]
    return ["at", "least", "one", "of", *[f"--{name}" for name in condition[1]]]
