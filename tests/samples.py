"""Many tables and lists of many kinds, the same ones in each run."""

from random import Random

from switchyard.errors import BadPart
from switchyard.machines import measures
from switchyard.tables import Operand, Option, Table

KINDS = [("any",), ("any",), ("chosen", "a", "add", "b"), ("number", -3, 12)]


def some_bounds(rng):
    low = rng.choice([0, 0, 0, 1, 2])
    return low, rng.choice([None, max(low, 1), max(low, 1) + 1])


def some_takes(rng):
    what = rng.choice(["nothing", "one", "maybe", "some", "some"])
    if what == "nothing":
        return ("nothing",)
    if what == "some":
        return ("some", rng.choice(KINDS), *some_bounds(rng))
    return (what, rng.choice(KINDS))


def some_conditions(rng, names):
    found = []
    while len(names) > 1 and len(found) < 3 and rng.random() < 0.25:
        one, other = rng.sample(names, 2)
        found.append(rng.choice([("needs", one, other), ("without", one, other), ("some", (one, other))]))
    return found


def some_table(rng, names, letters, groups, most, commands):
    options = []
    for _ in range(rng.randint(0, most)):
        low, high = some_bounds(rng)
        letter = letters.pop() if rng.random() < 0.8 else ""
        options.append(Option(names.pop(), letter, some_takes(rng), min(low, rng.choice([0, 0, 1])), high))
    operands = []
    for _ in range(rng.choice([0, 0, 1, 1, 2, 3])):
        operands.append(Operand(groups.pop(), rng.choice(KINDS), *some_bounds(rng)))
    traits = [trait for trait in ["dashed", "ends", "mixed"] if rng.random() < 0.4]
    traits += rng.choice([[], ["abbreviated"], ["guessed"]])
    if commands:
        traits += [trait for trait in ["alone", "far"] if rng.random() < 0.5]
    conditions = some_conditions(rng, [option.name for option in options])
    return Table(options, operands, commands, traits, conditions)


def sample_table(seed):
    """A table, by a number."""
    rng = Random(seed)
    names = ["a", "add", "adder", "ab", "b", "bad", "c", "v1", "v12"]
    letters = list("abcdvx")
    groups = [f"g{number}" for number in range(12)]
    rng.shuffle(names)
    rng.shuffle(letters)
    commands = {}
    for name in ["go", "b", "a"]:
        if rng.random() < 0.25:
            commands[name] = some_table(rng, names, letters, groups, 1, {})
    return some_table(rng, names, letters, groups, 3, commands)


def sample_lists(table, seed, many):
    """Lists of words, by a number, of which by no means all have a reading."""
    rng = Random(seed)
    options = [*table.options, *[option for part in table.commands.values() for option in part.options]]
    words = ["", "-", "--", "x", "a", "b", "add", "1", "-1", "-2", "12", "--=", "-x", *table.commands]
    for option in options:
        words += ["--" + option.name] * 3
        words += ["--" + option.name[:1], "--" + option.name + "=" + rng.choice(["", "a", "3", "-1", "a=b"])]
        if option.letter:
            words += ["-" + option.letter] * 3
            words += ["-" + option.letter + rng.choice(["a", "1", "-1", "x", "="])]
            words += ["-" + "".join(rng.choice(options).letter for _ in range(3))]
            words += ["-" + option.letter + rng.choice(options).letter + rng.choice(["", "3", "a"])]
    lists = []
    for _ in range(many):
        lists.append([rng.choice(words) for _ in range(rng.choice([0, 1, 1, 2, 2, 2, 3, 3, 4, 5, 6]))])
    return lists


def tables(first, behind):
    """Some tables, each with its number."""
    for seed in range(first, behind):
        try:
            yield seed, sample_table(seed)
        except BadPart as told:
            raise AssertionError(f"sample {seed}: {told.part}") from told


SMALL_KINDS = [("any",), ("any",), ("chosen", "a"), ("chosen", "a", "ab", "b"), ("chosen", "b")]


def small_part(rng, names, letters, groups, most, commands):
    options = []
    for _ in range(rng.randint(0, most)):
        low, high = some_bounds(rng)
        letter = letters.pop() if letters and rng.random() < 0.8 else ""
        what = rng.choice(["nothing", "one", "maybe", "some", "some"])
        takes = {"nothing": ("nothing",), "some": ("some", rng.choice(SMALL_KINDS), *some_bounds(rng))}
        takes = takes.get(what, (what, rng.choice(SMALL_KINDS)))
        options.append(Option(names.pop(), letter, takes, min(low, rng.choice([0, 0, 1])), high))
    many = rng.choice([0, 0, 1, 1, 2])
    operands = [Operand(groups.pop(), rng.choice(SMALL_KINDS), *some_bounds(rng)) for _ in range(many)]
    traits = [trait for trait in ["dashed", "ends", "mixed"] if rng.random() < 0.4]
    traits += rng.choice([[], ["abbreviated"], ["guessed"]])
    if commands:
        traits += [trait for trait in ["alone", "far"] if rng.random() < 0.5]
    return Table(options, operands, commands, traits, some_conditions(rng, [option.name for option in options]))


def small_table(seed):
    """A table of few signs, by a number, so that all lists up to some length can be tried."""
    rng = Random(seed)
    names, letters, groups = ["a", "ab", "b", "ba"], ["a", "b"], ["f", "g", "h", "k"]
    rng.shuffle(names)
    rng.shuffle(letters)
    commands = {}
    if rng.random() < 0.4:
        commands[rng.choice(["a", "ab"])] = small_part(rng, names, letters, groups, 1, {})
    return small_part(rng, names, letters, groups, 3, commands)


def small_tables(first, behind):
    """Some tables of few signs within the measures, each with its number."""
    for seed in range(first, behind):
        table = small_table(seed)
        if measures(table)[0] <= 120:
            yield seed, table
