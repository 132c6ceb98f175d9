"""Settings: comings of options as the lines of a text."""

from switchyard.errors import BadLine, BadSetting
from switchyard.kinds import may_have
from switchyard.lines import split_line, write_line
from switchyard.readings import Reading


def read_settings(table, text):
    """The comings of the table's options that a text tells, as a dict from their names."""
    if not isinstance(text, str):
        raise BadSetting(0)
    options = {option.name: option for option in table.options}
    found = {}
    for number, content in enumerate(text.split("\n"), start=1):
        line = content.strip(" ")
        if line != "" and not line.startswith("#"):
            head, sign, rest = line.partition("=")
            name = head.rstrip(" ")
            if name not in options:
                raise BadSetting(number)
            values = _values(options[name].takes, sign, rest)
            comings = found.setdefault(name, [])
            if values is None or len(comings) == options[name].high:
                raise BadSetting(number)
            comings.append(values)
    return {name: tuple(found[name]) for name in sorted(found)}


def write_settings(table, comings):
    """A text that tells these comings of the table's options."""
    lines = [_line_of(option, values) for option in table.options for values in comings.get(option.name, ())]
    return "".join([f"{line}\n" for line in lines])


def settled(reading, settings):
    """The reading with the settings' comings of those of its options that did not come in it."""
    options = {}
    for name, comings in reading.options.items():
        options[name] = comings
        if len(comings) == 0:
            options[name] = settings.get(name, ())
    return Reading(options, reading.operands, reading.command)


def _values(takes, sign, rest):
    """The values of a coming with `=` and what stands behind it, or with neither; None if it cannot be so."""
    if sign == "":
        if takes[0] == "nothing" or takes[0] == "maybe":
            return ()
        return None
    try:
        values = tuple(split_line(rest))
    except BadLine:
        return None
    if takes[0] == "nothing" or (takes[0] == "maybe" and values == ()) or not may_have(takes, values):
        return None
    return values


def _line_of(option, values):
    if len(values) > 0:
        return f"{option.name} = {write_line(values)}"
    if option.takes[0] == "some":
        return f"{option.name} ="
    return option.name
