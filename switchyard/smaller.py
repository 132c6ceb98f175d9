"""Tables that are made of tables: with less, with other names, of one command."""

from switchyard.errors import BadPart
from switchyard.kinds import is_name
from switchyard.tables import Operand, Option, Table
from switchyard.ways import named_by


def without(table, name):
    """The table without the option or operand of a name, and without the conditions that name it."""
    if name not in _names_within(table):
        raise BadPart("name")
    commands = {command: _less(part, name, {}) for command, part in table.commands.items()}
    return _less(table, name, commands)


def renamed(table, names):
    """The table with other names for some options and operands, by a dict."""
    known = _names_within(table)
    if not all([old in known and is_name(new) for old, new in names.items()]):
        raise BadPart("name")
    commands = {command: _with_names(part, names, {}) for command, part in table.commands.items()}
    return _with_names(table, names, commands)


def command_alone(table, name):
    """The table of a command, with the options that are known behind it for another reason than its own."""
    if name not in list(table.commands):
        raise BadPart("name")
    part = table.commands[name]
    options = list(part.options)
    if "far" in table.traits:
        options.extend([Option(far.name, far.letter, far.takes, 0, far.high) for far in table.options])
    return Table(options, part.operands, None, part.traits, part.conditions)


def _names_within(table):
    """The names of the options and operands of a table and of its commands' tables."""
    names = []
    for part in [table, *list(table.commands.values())]:
        names.extend([one.name for one in [*part.options, *part.operands]])
    return names


def _less(table, name, commands):
    options = [option for option in table.options if option.name != name]
    operands = [operand for operand in table.operands if operand.name != name]
    conditions = [condition for condition in table.conditions if name not in named_by(condition)]
    return Table(options, operands, commands, table.traits, conditions)


def _with_names(table, names, commands):
    options = []
    for option in table.options:
        name = names.get(option.name, option.name)
        options.append(Option(name, option.letter, option.takes, option.low, option.high))
    operands = []
    for operand in table.operands:
        name = names.get(operand.name, operand.name)
        operands.append(Operand(name, operand.kind, operand.few, operand.many))
    conditions = [_with_names_in(condition, names) for condition in table.conditions]
    return Table(options, operands, commands, table.traits, conditions)


def _with_names_in(condition, names):
    """A condition with other names."""
    changed = tuple([names.get(name, name) for name in named_by(condition)])
    if condition[0] == "some":
        return ("some", changed)
    return (condition[0], *changed)
