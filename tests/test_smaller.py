"""Tables made of tables: point [38]."""

import unittest

from switchyard.errors import BadPart
from switchyard.readings import readings
from switchyard.smaller import command_alone, renamed, without
from switchyard.tables import Operand, Option, Table
from switchyard.tabletexts import write_table
from tests.samples import sample_lists, small_tables, tables

ANY = ("any",)
NOTHING = ("nothing",)
CHOSEN = ("chosen", "a", "b")
FIGURE = ("number", 0, 9)


def option(name, letter="", takes=NOTHING, low=0, high=None):
    return Option(name, letter, takes, low, high)


def operand(name, kind=ANY, few=0, many=None):
    return Operand(name, kind, few, many)


PART = Table([option("x", "x"), option("y", "y", ("one", ANY), 1, 2)], [operand("g", FIGURE)], None, ("ends", "mixed"), [("needs", "x", "y")])
UP = Table([option("z", "z")], [operand("h")])
TABLE = Table(
    [option("a", "a", ("maybe", CHOSEN), 1, 3), option("b", "b"), option("c")], [operand("f", CHOSEN), operand("i", FIGURE)],
    {"go": PART, "up": UP}, ("far", "alone", "guessed"), [("needs", "a", "b"), ("some", ("a", "c")), ("without", "b", "c")],
)


class Small(unittest.TestCase):
    def setUp(self):
        self.text = write_table(TABLE)

    def tearDown(self):
        self.assertEqual(write_table(TABLE), self.text)

    def check_bad(self, part, make, *arguments):
        with self.assertRaises(BadPart) as caught:
            make(*arguments)
        self.assertEqual(caught.exception.part, part)


class Without(Small):
    def made(self, options=TABLE.options, operands=TABLE.operands, part=PART, conditions=TABLE.conditions):
        return Table(options, operands, {"go": part, "up": UP}, TABLE.traits, conditions)

    def test_options_and_operands_of_the_table(self):
        a, b, c = TABLE.options
        self.assertEqual(without(TABLE, "a"), self.made([b, c], conditions=[("without", "b", "c")]))
        self.assertEqual(without(TABLE, "b"), self.made([a, c], conditions=[("some", ("a", "c"))]))
        self.assertEqual(without(TABLE, "c"), self.made([a, b], conditions=[("needs", "a", "b")]))
        self.assertEqual(without(TABLE, "f"), self.made(operands=TABLE.operands[1:]))
        self.assertEqual(without(TABLE, "i"), self.made(operands=TABLE.operands[:1]))

    def test_options_and_operands_of_a_commands_table(self):
        x, y = PART.options
        for name, less in [("x", Table([y], PART.operands, None, PART.traits)), ("y", Table([x], PART.operands, None, PART.traits)),
                           ("g", Table([x, y], [], None, PART.traits, PART.conditions))]:
            told = without(TABLE, name)
            self.assertEqual(told, self.made(part=less))
            self.assertEqual(told.conditions, TABLE.conditions)
        self.assertEqual(without(TABLE, "z").commands, {"go": PART, "up": Table([], UP.operands)})
        self.assertEqual(without(TABLE, "h").commands, {"go": PART, "up": Table(UP.options)})

    def test_without_conditions(self):
        table = Table([option("a"), option("b")], [operand("f")])
        self.assertEqual(without(table, "a"), Table([option("b")], [operand("f")]))
        self.assertEqual(without(without(table, "a"), "b"), Table([], [operand("f")]))
        self.assertEqual(without(Table([], [operand("f")]), "f"), Table([]))

    def test_names_that_nothing_has(self):
        for name in ["", "d", "go", "up", "A", None, 7, ["a"], ("a",), {}]:
            self.check_bad("name", without, TABLE, name)
        self.check_bad("name", without, Table([]), "a")

    def test_readings_are_those_in_which_the_part_does_not_come(self):
        """As long as what is left of a word or of what waits does not turn on the part, so for operands at the end."""
        checked = 0
        for seed, table in [*tables(0, 120), *small_tables(0, 100)]:
            names = {name for condition in table.conditions for name in condition[1:] if isinstance(name, str)}
            for one in table.options:
                if one.low > 0 or one.name in names or set(table.traits) & {"abbreviated", "guessed"} or table.conditions:
                    continue
                less = without(table, one.name)
                for words in sample_lists(table, seed, 15):
                    kept = [reading.key() for reading in readings(table, words) if not reading.options[one.name]]
                    told = [(command, tuple(pair for pair in options if pair[0] != one.name), operands)
                            for command, options, operands in kept]
                    found = [reading.key() for reading in readings(less, words)]
                    self.assertEqual(found, sorted(told), (seed, one.name, words))
                    checked += 1
        self.assertGreater(checked, 500)


class Renamed(Small):
    def test_other_names(self):
        told = renamed(TABLE, {"a": "b", "b": "a", "c": "long1", "f": "files", "x": "w", "g": "many", "h": "k", "z": "q"})
        part = Table([option("w", "x"), option("y", "y", ("one", ANY), 1, 2)], [operand("many", FIGURE)], None, PART.traits, [("needs", "w", "y")])
        self.assertEqual(told, Table(
            [option("b", "a", ("maybe", CHOSEN), 1, 3), option("a", "b"), option("long1")], [operand("files", CHOSEN), operand("i", FIGURE)],
            {"go": part, "up": Table([option("q", "z")], [operand("k")])}, TABLE.traits,
            [("needs", "b", "a"), ("some", ("b", "long1")), ("without", "a", "long1")],
        ))
        self.assertEqual(renamed(told, {"b": "a", "a": "b", "long1": "c", "files": "f", "w": "x", "many": "g", "k": "h", "q": "z"}), TABLE)

    def test_no_other_names(self):
        self.assertEqual(renamed(TABLE, {}), TABLE)
        self.assertEqual(renamed(TABLE, {"a": "a", "g": "g"}), TABLE)
        self.assertEqual(renamed(Table([]), {}), Table([]))

    def test_names_of_commands_and_chosen_words_stay(self):
        table = Table([option("go", "g", ("one", ("chosen", "go", "b")))], [operand("f", ("chosen", "go"))], {"go": Table([])})
        told = renamed(table, {"go": "b"})
        self.assertEqual(told, Table([option("b", "g", ("one", ("chosen", "go", "b")))], table.operands, table.commands))

    def test_names_that_nothing_has(self):
        for names in [{"d": "e"}, {"go": "e"}, {"a": "e", "d": "k1"}, {"": "e"}, {None: "e"}, {7: "e"}, {("a",): "e"}]:
            self.check_bad("name", renamed, TABLE, names)
        self.check_bad("name", renamed, TABLE, {"a": "b", "d": "e"})

    def test_names_that_are_none(self):
        for name in ["", "A", "1a", "a b", "abcdefghi", None, 7, ["a"]]:
            for old in ["a", "f", "x", "h"]:
                self.check_bad("name", renamed, TABLE, {old: name})
        self.check_bad("name", renamed, TABLE, {"x": "h", "a": "A"})

    def test_names_that_stand_twice_then(self):
        for old, new in [("a", "f"), ("f", "a"), ("a", "x"), ("x", "a"), ("x", "g"), ("g", "h"), ("z", "x"), ("i", "f")]:
            self.check_bad("names", renamed, TABLE, {old: new})
        self.check_bad("names", renamed, TABLE, {"a": "new", "f": "new"})
        self.check_bad("names", renamed, TABLE, {"x": "new", "z": "new"})
        two = Table([option("a"), option("b")])
        self.check_bad("names", renamed, two, {"a": "b"})
        # a condition that names one option twice is not as described, and that is looked at first
        self.check_bad("conditions", renamed, TABLE, {"a": "b"})

    def test_readings_have_the_other_names(self):
        names = {"add": "long1", "a": "b", "b": "a", "c": "new"}
        for seed, table in tables(0, 60):
            if set(table.traits) & {"abbreviated", "guessed"}:
                continue
            known = [one.name for part in [table, *table.commands.values()] for one in [*part.options, *part.operands]]
            other = renamed(table, {old: f"n{number}" for number, old in enumerate(known)})
            back = {f"n{number}": old for number, old in enumerate(known)}
            for words in sample_lists(table, seed, 10):
                if not any(word.startswith("--") for word in words):
                    told = [(one.command, {back[name]: row for name, row in one.options.items()}) for one in readings(other, words)]
                    found = [(one.command, one.options) for one in readings(table, words)]
                    self.assertCountEqual([repr((c, sorted(o.items()))) for c, o in told], [repr((c, sorted(o.items()))) for c, o in found])
        self.assertEqual(len(names), 4)


class CommandAlone(Small):
    def test_with_far(self):
        told = command_alone(TABLE, "go")
        options = [*PART.options, option("a", "a", ("maybe", CHOSEN), 0, 3), option("b", "b"), option("c")]
        self.assertEqual(told, Table(options, PART.operands, None, PART.traits, PART.conditions))
        self.assertEqual(command_alone(TABLE, "up"), Table([*UP.options, *options[2:]], UP.operands))

    def test_without_far(self):
        table = Table(TABLE.options, TABLE.operands, TABLE.commands, ("alone",))
        self.assertEqual(command_alone(table, "go"), PART)
        self.assertEqual(command_alone(table, "up"), UP)
        self.assertEqual(command_alone(table, "go").commands, {})

    def test_own_options_keep_their_bounds(self):
        table = Table([option("a", "", NOTHING, 9, 9)], [], {"go": Table([option("b", "", NOTHING, 2, 3)])}, ("far",))
        self.assertEqual(command_alone(table, "go").options, (option("b", "", NOTHING, 2, 3), option("a", "", NOTHING, 0, 9)))

    def test_too_many_options(self):
        own = [option(f"o{number}") for number in range(4)]
        for many in range(9):
            outer = [option(f"p{number}") for number in range(many)]
            near = Table(outer, [], {"go": Table(own)})
            self.assertEqual(len(command_alone(near, "go").options), 4)
            far = Table(outer, [], {"go": Table(own)}, ("far",))
            if many > 4:
                self.check_bad("options", command_alone, far, "go")
            else:
                self.assertEqual(len(command_alone(far, "go").options), many + 4)

    def test_names_that_are_no_command(self):
        for name in ["", "a", "x", "gone", "g", None, 7, ["go"], ("go",)]:
            self.check_bad("name", command_alone, TABLE, name)
        self.check_bad("name", command_alone, Table([option("go")]), "go")
        many = Table([option(f"p{number}") for number in range(8)], [], {"go": Table([option("o")])}, ("far",))
        self.check_bad("name", command_alone, many, "up")

    def test_words_behind_a_command_are_read_as_by_its_table(self):
        checked = 0
        for seed, table in [*tables(0, 200), *small_tables(0, 200)]:
            if any(one.few for one in table.operands) or any(one.low for one in table.options) or table.conditions:
                continue
            for command, part in table.commands.items():
                alone = command_alone(table, command)
                for words in sample_lists(table, seed, 20):
                    kept = []
                    for reading in readings(table, [command, *words]):
                        if reading.command == command and not any(reading.operands[one.name] for one in table.operands):
                            kept.append((
                                {name: row for name, row in reading.options.items() if alone.option(name)},
                                {one.name: reading.operands[one.name] for one in part.operands},
                            ))
                    told = [(one.options, one.operands) for one in readings(alone, words)]
                    self.assertCountEqual(kept, told, (seed, command, words))
                    checked += bool(told)
        self.assertGreater(checked, 50)


if __name__ == "__main__":
    unittest.main()
