"""Options, operands and the tables that they make."""

from switchyard.errors import BadPart
from switchyard.kinds import are_names, is_high, is_kind, is_letter, is_low, is_name, is_row

TRAITS = ("abbreviated", "guessed", "dashed", "ends", "mixed", "alone", "far")
TRAITS_OF_COMMANDS = ("alone", "far")


class Option:
    """An option: its names, what it takes, and how often it may come."""

    def __init__(self, name, letter, takes, low=0, high=None):
        if not is_name(name):
            raise BadPart("name")
        if letter != "" and not is_letter(letter):
            raise BadPart("letter")
        if not _is_takes(takes):
            raise BadPart("takes")
        if not is_low(low):
            raise BadPart("low")
        if not is_high(low, high):
            raise BadPart("high")
        self.name = name
        self.letter = letter
        self.takes = takes
        self.low = low
        self.high = high

    def __eq__(self, other):
        return (
            isinstance(other, Option)
            and self.name == other.name
            and self.letter == other.letter
            and self.takes == other.takes
            and self.low == other.low
            and self.high == other.high
        )


class Operand:
    """A group of operands: its name, the type of its words, and how many it has."""

    def __init__(self, name, kind, few=1, many=1):
        if not is_name(name):
            raise BadPart("name")
        if not is_kind(kind):
            raise BadPart("kind")
        if not is_low(few):
            raise BadPart("few")
        if not is_high(few, many):
            raise BadPart("many")
        self.name = name
        self.kind = kind
        self.few = few
        self.many = many

    def __eq__(self, other):
        return (
            isinstance(other, Operand)
            and self.name == other.name
            and self.kind == other.kind
            and self.few == other.few
            and self.many == other.many
        )


class Table:
    """A table: options, operands, commands with tables of their own, traits and conditions."""

    def __init__(self, options, operands=(), commands=None, traits=(), conditions=()):
        if not _are_options(options):
            raise BadPart("options")
        if not _are_operands(operands):
            raise BadPart("operands")
        if commands is not None and not _are_commands(commands):
            raise BadPart("commands")
        if not _are_traits(traits, commands):
            raise BadPart("traits")
        if not _are_conditions(conditions, [option.name for option in options]):
            raise BadPart("conditions")
        self.options = tuple(options)
        self.operands = tuple(operands)
        self.commands = {}
        if commands is not None:
            self.commands = {name: commands[name] for name in sorted(commands)}
        self.traits = tuple(sorted(traits))
        self.conditions = tuple(conditions)
        if not _are_different(_names_within(self)):
            raise BadPart("names")
        if not _has_clear_letters(self):
            raise BadPart("letters")

    def __eq__(self, other):
        return (
            isinstance(other, Table)
            and self.options == other.options
            and self.operands == other.operands
            and self.commands == other.commands
            and self.traits == other.traits
            and self.conditions == other.conditions
        )

    def option(self, name):
        """The option of this table or of one of its commands' tables with a name; None without."""
        for table in [self, *list(self.commands.values())]:
            for option in table.options:
                if option.name == name:
                    return option
        return None


def known_options(table, path):
    """The options that are known in the table itself (an empty path) or behind a command's word."""
    if path == "":
        return table.options
    own = table.commands[path].options
    if "far" in table.traits:
        return own + table.options
    return own


def _is_takes(takes):
    if not isinstance(takes, tuple) or len(takes) == 0:
        return False
    if takes[0] == "nothing":
        return len(takes) == 1
    if takes[0] == "one" or takes[0] == "maybe":
        return len(takes) == 2 and is_kind(takes[1])
    if takes[0] != "some" or len(takes) != 4:
        return False
    return is_kind(takes[1]) and is_low(takes[2]) and is_high(takes[2], takes[3])


def _are_options(options):
    if not is_row(options) or len(options) > 8:
        return False
    return all([isinstance(option, Option) for option in options])


def _are_operands(operands):
    if not is_row(operands) or len(operands) > 3:
        return False
    return all([isinstance(operand, Operand) for operand in operands])


def _are_commands(commands):
    if not isinstance(commands, dict) or len(commands) > 3:
        return False
    return all([is_name(name) and _is_table_of_command(table) for name, table in commands.items()])


def _is_table_of_command(table):
    return isinstance(table, Table) and len(table.commands) == 0 and len(table.options) <= 4


def _are_traits(traits, commands):
    if not is_row(traits) or not all([trait in TRAITS for trait in traits]):
        return False
    if not _are_different(traits) or ("abbreviated" in traits and "guessed" in traits):
        return False
    return bool(commands) or not any([trait in TRAITS_OF_COMMANDS for trait in traits])


def _are_conditions(conditions, names):
    if not is_row(conditions) or len(conditions) > 3:
        return False
    return all([_is_condition(condition, names) for condition in conditions])


def _is_condition(condition, names):
    if not isinstance(condition, tuple) or len(condition) == 0:
        return False
    if condition[0] == "some":
        return len(condition) == 2 and _are_names_out_of(condition[1], names)
    if condition[0] != "needs" and condition[0] != "without":
        return False
    return len(condition) == 3 and _are_names_out_of(condition[1:], names)


def _are_names_out_of(chosen, names):
    return isinstance(chosen, tuple) and are_names(chosen) and all([name in names for name in chosen])


def _are_different(words):
    return len(set(words)) == len(words)


def _names_within(table):
    names = []
    for part in [table, *list(table.commands.values())]:
        names.extend([option.name for option in part.options])
        names.extend([operand.name for operand in part.operands])
    return names


def _has_clear_letters(table):
    for path in ["", *list(table.commands)]:
        letters = [option.letter for option in known_options(table, path) if option.letter != ""]
        if not _are_different(letters):
            return False
    return True
