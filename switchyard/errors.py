"""The errors that the document names."""


class SwitchError(ValueError):
    """The error above all others of this package."""


class BadPart(SwitchError):
    """A part of what is made is not as described."""

    def __init__(self, part):
        self.part = part

    def __eq__(self, other):
        return isinstance(other, BadPart) and self.part == other.part


class BadWords(SwitchError):
    """A list is no row (number None), or the thing with this number in it is no word."""

    def __init__(self, number):
        self.number = number

    def __eq__(self, other):
        return isinstance(other, BadWords) and self.number == other.number


class BadText(SwitchError):
    """A word of a table's text cannot stand where it stands, or one lacks there."""

    def __init__(self, line, column):
        self.line = line
        self.column = column

    def __eq__(self, other):
        return isinstance(other, BadText) and self.line == other.line and self.column == other.column


class BadLine(SwitchError):
    """A line tells no words."""

    def __init__(self, column):
        self.column = column

    def __eq__(self, other):
        return isinstance(other, BadLine) and self.column == other.column


class BadLaying(SwitchError):
    """A default cannot be laid below this option."""

    def __init__(self, name):
        self.name = name

    def __eq__(self, other):
        return isinstance(other, BadLaying) and self.name == other.name


class BadAlias(SwitchError):
    """An alias is not as described."""

    def __init__(self, name):
        self.name = name

    def __eq__(self, other):
        return isinstance(other, BadAlias) and self.name == other.name


class BadSetting(SwitchError):
    """A line of settings tells no coming of an option."""

    def __init__(self, line):
        self.line = line

    def __eq__(self, other):
        return isinstance(other, BadSetting) and self.line == other.line


class TooLarge(SwitchError):
    """What is asked is larger than what is decided."""

    def __init__(self, number):
        self.number = number

    def __eq__(self, other):
        return isinstance(other, TooLarge) and self.number == other.number
