"""Options, operands and tables: points [2] and [4] to [6]."""

import unittest

from switchyard.errors import BadPart
from switchyard.tables import Operand, Option, Table

ANY = ("any",)
NOTHING = ("nothing",)


def option(name, letter="", takes=NOTHING, low=0, high=None):
    return Option(name, letter, takes, low, high)


class Parts(unittest.TestCase):
    def bad(self, part, made, *arguments):
        with self.assertRaises(BadPart) as caught:
            made(*arguments)
        self.assertEqual(caught.exception.part, part, arguments)


class Options(Parts):
    def test_attributes_as_given(self):
        takes = ("some", ("chosen", "b", "a"), 1, 3)
        made = Option("add", "a", takes, 1, 2)
        self.assertEqual((made.name, made.letter, made.takes, made.low, made.high), ("add", "a", takes, 1, 2))

    def test_defaults(self):
        made = Option("add", "", NOTHING)
        self.assertEqual((made.letter, made.low, made.high), ("", 0, None))
        made = Option("add", "", NOTHING, high=3)
        self.assertEqual((made.low, made.high), (0, 3))
        made = Option(name="add", letter="z", takes=NOTHING, low=2)
        self.assertEqual((made.letter, made.low, made.high), ("z", 2, None))

    def test_name(self):
        for name in ["", "A", "0a", "abcdefghi", "a-b", None, 1, ["a"]]:
            self.bad("name", Option, name, "a", NOTHING)
        for name in ["a", "abcdefgh", "a1234567"]:
            self.assertEqual(Option(name, "a", NOTHING).name, name)

    def test_letter(self):
        for letter in ["A", "1", "ab", "-", " ", "\u00e4", None, 1, ["a"], b"a", ("a",), "=", "`", "{"]:
            self.bad("letter", Option, "add", letter, NOTHING)
        for letter in ["", "a", "z"]:
            self.assertEqual(Option("add", letter, NOTHING).letter, letter)

    def test_takes(self):
        number = ("number", -1, 1)
        good = [NOTHING, ("one", ANY), ("maybe", number), ("some", number, 0, 1), ("some", ANY, 9, 9),
                ("some", ANY, 9, None), ("some", ANY, 0, None), ("one", ("chosen", "one"))]
        for takes in good:
            self.assertEqual(Option("add", "", takes).takes, takes)
        bad = [None, "nothing", "", (), ["nothing"], ("nothing", ANY), ("one",), ("one", "any"), ("one", ANY, 1),
               ("one", ["any"]), ["one", ANY], ("maybe",), ("maybe", ()), ("maybe", ANY, ANY), ("maybe", None),
               ("some",), ("some", ANY), ("some", ANY, 0), ("some", ANY, 0, 1, 2), ["some", ANY, 0, 1],
               ("some", ["any"], 0, 1), ("some", ("chosen", ["a"]), 0, 1), ("all",), ("One", ANY), (NOTHING,), (1,),
               ("one", ("number", 1, 0)), ("one", ("number", True, 1)), ("two", ANY), ("none", ANY, 0, 1)]
        for takes in bad:
            self.bad("takes", Option, "add", "", takes)

    def test_bounds_of_some(self):
        for few, many in [(-1, 1), (10, None), (0, 0), (2, 1), (0, 10), (9, 8), (True, 1), (0, True), (False, 1),
                          (None, 1), ("0", 1), (0, "1"), (1, 0), (0.0, 1)]:
            self.bad("takes", Option, "add", "", ("some", ANY, few, many))

    def test_low_and_high(self):
        for low, high in [(0, 1), (0, 9), (9, 9), (9, None), (1, 1), (0, None), (5, 6)]:
            made = option("add", low=low, high=high)
            self.assertEqual((made.low, made.high), (low, high))
        for low in [-1, 10, True, False, None, "1", 1.0]:
            self.bad("low", Option, "add", "", NOTHING, low, None)
        for low, high in [(0, 0), (0, 10), (2, 1), (9, 8), (0, True), (0, False), (0, "1"), (0, -1), (1, 1.0)]:
            self.bad("high", Option, "add", "", NOTHING, low, high)

    def test_the_first_bad_part_is_told(self):
        self.bad("name", Option, "", "A", (), -1, 0)
        self.bad("letter", Option, "a", "A", (), -1, 0)
        self.bad("takes", Option, "a", "a", (), -1, 0)
        self.bad("low", Option, "a", "a", NOTHING, -1, 0)
        self.bad("low", Option, "a", "a", NOTHING, True, True)
        self.bad("high", Option, "a", "a", NOTHING, 1, 0)

    def test_equality(self):
        made = Option("add", "a", ("one", ANY), 1, 2)
        self.assertTrue(made == Option("add", "a", ("one", ("any",)), 1, 2))
        self.assertFalse(made != Option("add", "a", ("one", ("any",)), 1, 2))
        unlike = [Option("adds", "a", ("one", ANY), 1, 2), Option("add", "b", ("one", ANY), 1, 2),
                  Option("add", "a", ("maybe", ANY), 1, 2), Option("add", "a", ("one", ANY), 0, 2),
                  Option("add", "a", ("one", ANY), 1, None), Operand("add", ANY), "add", None,
                  ("add", "a", ("one", ANY), 1, 2), Table([made])]
        for other in unlike:
            self.assertFalse(made == other)
            self.assertTrue(made != other)


class Operands(Parts):
    def test_attributes_as_given_and_defaults(self):
        made = Operand("file", ("chosen", "b", "a"), 2, 3)
        self.assertEqual((made.name, made.kind, made.few, made.many), ("file", ("chosen", "b", "a"), 2, 3))
        made = Operand("file", ANY)
        self.assertEqual((made.few, made.many), (1, 1))
        made = Operand(name="file", kind=ANY, many=None)
        self.assertEqual((made.few, made.many), (1, None))

    def test_parts(self):
        for name in ["", "File", "abcdefghi", None, 3]:
            self.bad("name", Operand, name, ANY)
        for kind in [None, "any", ["any"], (), ("one", ANY), ("chosen",), ("number", 0, True)]:
            self.bad("kind", Operand, "file", kind)
        for few in [-1, 10, True, False, None, "1"]:
            self.bad("few", Operand, "file", ANY, few, None)
        for few, many in [(0, 0), (0, 10), (2, 1), (1, True), (1, False), (1, "1"), (0, -1)]:
            self.bad("many", Operand, "file", ANY, few, many)
        self.bad("many", Operand, "file", ANY, 2)
        for few, many in [(0, 1), (0, 9), (9, 9), (9, None), (0, None)]:
            self.assertEqual(Operand("file", ANY, few, many).many, many)

    def test_the_first_bad_part_is_told(self):
        self.bad("name", Operand, "", (), -1, 0)
        self.bad("kind", Operand, "a", (), -1, 0)
        self.bad("few", Operand, "a", ANY, -1, 0)
        self.bad("many", Operand, "a", ANY, 0, 0)

    def test_equality(self):
        made = Operand("file", ANY, 1, 2)
        self.assertTrue(made == Operand("file", ("any",), 1, 2))
        for other in [Operand("files", ANY, 1, 2), Operand("file", ("number", 0, 1), 1, 2), Operand("file", ANY, 0, 2),
                      Operand("file", ANY, 1, 3), Operand("file", ANY, 1, None), "file", None, option("file")]:
            self.assertFalse(made == other)
            self.assertTrue(made != other)


class Tables(Parts):
    def test_attributes(self):
        force, level = option("force"), option("level")
        file, sub = Operand("file", ANY), Table([option("deep")])
        conditions = [("without", "level", "force"), ("some", ("level", "force")), ("needs", "force", "level")]
        made = Table([level, force], [file], {"two": sub, "one": Table([])}, ["mixed", "alone", "ends"], conditions)
        self.assertEqual(made.options, (level, force))
        self.assertEqual(made.operands, (file,))
        self.assertEqual(list(made.commands.items()), [("one", Table([])), ("two", sub)])
        self.assertIs(type(made.commands), dict)
        self.assertEqual(made.traits, ("alone", "ends", "mixed"))
        self.assertEqual(made.conditions, tuple(conditions))

    def test_defaults(self):
        made = Table([])
        self.assertEqual((made.options, made.operands, made.commands, made.traits, made.conditions),
                         ((), (), {}, (), ()))
        self.assertEqual(Table([], (), {}, [], []), made)

    def test_lists_and_tuples_for_each_row(self):
        force, level, file = option("force"), option("level"), Operand("file", ANY)
        condition = ("needs", "force", "level")
        made = Table([force, level], [file], None, ["mixed"], [condition])
        self.assertEqual(made, Table((force, level), (file,), None, ("mixed",), (condition,)))

    def test_names_of_arguments(self):
        made = Table(options=[option("force")], conditions=[("some", ("force",))], traits=("ends",))
        self.assertEqual(made.conditions, (("some", ("force",)),))

    def test_options(self):
        for options in [None, option("a"), "ab", {"a": option("a")}, [None], [option("a"), "b"],
                        [Operand("a", ANY)], [Table([])], 3]:
            self.bad("options", Table, options)
        eight = [option(name) for name in "abcdefgh"]
        self.assertEqual(Table(eight).options, tuple(eight))
        self.bad("options", Table, [*eight, option("i")])

    def test_operands(self):
        for operands in [None, Operand("a", ANY), {}, "", [None], [option("a")], (Operand("a", ANY), "b")]:
            self.bad("operands", Table, [], operands)
        three = [Operand(name, ANY) for name in "abc"]
        self.assertEqual(Table([], three).operands, tuple(three))
        self.bad("operands", Table, [], [*three, Operand("d", ANY)])

    def test_commands(self):
        sub = Table([])
        for commands in [[], (), "", 0, False, [("a", sub)], {"A": sub}, {"": sub}, {1: sub}, {None: sub}, {"a": None},
                         {"a": []}, {"a": {}}, {"abcdefghi": sub}, {"a": sub, "b": 1}, {"a": sub, 2: sub}]:
            self.bad("commands", Table, [], [], commands)
        three = {name: sub for name in "cab"}
        self.assertEqual(list(Table([], [], three).commands), ["a", "b", "c"])
        self.bad("commands", Table, [], [], {**three, "d": sub})

    def test_commands_tables_have_no_commands_and_few_options(self):
        four = Table([option(name) for name in "abcd"])
        five = Table([option(name) for name in "abcde"])
        self.assertEqual(Table([], [], {"go": four}).commands, {"go": four})
        self.bad("commands", Table, [], [], {"go": five})
        self.bad("commands", Table, [], [], {"go": Table([], [], {"on": Table([])})})
        self.assertEqual(Table([], [], {"go": Table([], [], {})}).commands, {"go": Table([])})

    def test_a_command_may_have_the_name_of_an_option(self):
        made = Table([option("go")], [], {"go": Table([])})
        self.assertEqual(made.option("go"), option("go"))

    def test_traits(self):
        sub = {"go": Table([])}
        for trait in ["abbreviated", "guessed", "dashed", "ends", "mixed"]:
            self.assertEqual(Table([], [], None, [trait]).traits, (trait,))
            self.bad("traits", Table, [], [], None, [trait, trait])
        for trait in ["alone", "far"]:
            self.assertEqual(Table([], [], sub, [trait]).traits, (trait,))
            self.bad("traits", Table, [], [], None, [trait])
            self.bad("traits", Table, [], [], {}, [trait])
        for first in ["abbreviated", "guessed"]:
            everything = Table([], [], sub, ("mixed", "far", "ends", first, "dashed", "alone"))
            self.assertEqual(everything.traits, tuple(sorted(["alone", first, "dashed", "ends", "far", "mixed"])))
        self.bad("traits", Table, [], [], None, ["abbreviated", "guessed"])
        self.bad("traits", Table, [], [], sub, ["guessed", "mixed", "abbreviated"])
        for traits in [None, "mixed", "", {}, {"mixed": 1}, [None], ["Mixed"], [""], ["mixed", "other"], [["mixed"]],
                       [("mixed",)], [1], ["mix"], [True]]:
            self.bad("traits", Table, [], [], sub, traits)

    def test_conditions(self):
        options = [option(name) for name in "abcdefgh"]
        for condition in [("needs", "a", "b"), ("needs", "b", "a"), ("without", "h", "a"), ("some", ("a",)),
                          ("some", ("h", "b")), ("some", tuple("hgfedcba"))]:
            self.assertEqual(Table(options, [], None, [], [condition]).conditions, (condition,))
        for condition in [None, (), "needs", ("needs",), ("needs", "a"), ("needs", "a", "a"), ("needs", "a", "z"),
                          ("needs", "z", "a"), ("needs", "a", "b", "c"), ["needs", "a", "b"], ("without", "a", "a"),
                          ("without", "a"), ("without", "a", None), ("without", ("a", "b")), ["without", "a", "b"],
                          ("needs", ["a"], "b"), ("needs", "a", 1),
                          ("some",), ("some", ()), ("some", ["a"]), ("some", "a"), ("some", ("a", "a")),
                          ("some", ("a", "z")), ("some", ("a",), ("b",)), ("some", "a", "b"), ["some", ("a",)],
                          ("some", (1,)), ("some", (["a"],)), ("some", tuple("abcdefgha")), ("some", None),
                          ("Needs", "a", "b"), ("other", "a", "b"), (None, "a", "b"), 3]:
            self.bad("conditions", Table, options, [], None, [], [condition])
        for conditions in [None, ("needs", "a", "b"), {}, "", {"needs": 1}, 1]:
            self.bad("conditions", Table, options, [], None, [], conditions)

    def test_number_and_turn_of_conditions(self):
        options = [option("a"), option("b")]
        three = [("without", "a", "b"), ("needs", "a", "b"), ("without", "a", "b")]
        self.assertEqual(Table(options, (), None, (), three).conditions, tuple(three))
        self.bad("conditions", Table, options, (), None, (), [*three, ("some", ("a",))])

    def test_conditions_name_options_of_the_table_itself_alone(self):
        sub = Table([option("b"), option("c")], [], None, [], [("needs", "b", "c")])
        self.bad("conditions", Table, [option("a")], [Operand("d", ANY)], {"go": sub}, [], [("needs", "a", "b")])
        self.bad("conditions", Table, [option("a")], [Operand("d", ANY)], {"go": sub}, [], [("needs", "a", "d")])
        self.bad("conditions", Table, [option("a")], [Operand("d", ANY)], {"go": sub}, ["far"], [("some", ("b",))])

    def test_names_that_stand_twice(self):
        first, file = option("a"), Operand("a", ANY)
        one, other = Table([option("a")]), Table([], [Operand("a", ANY)])
        for arguments in [([first, option("b"), first],), ([first], [file]), ([], [file, Operand("b", ANY), file]),
                          ([first], [], {"go": one}), ([first], [], {"go": other}), ([], [file], {"go": one}),
                          ([], [file], {"go": other}), ([], [], {"go": one, "on": one}),
                          ([], [], {"go": one, "on": other}), ([], [], {"go": other, "in": Table([]), "on": other}),
                          ([first], [], {"go": one}, ["far"])]:
            self.bad("names", Table, *arguments)
        made = Table([first], [Operand("b", ANY)], {"go": Table([option("c")]), "on": Table([], [Operand("d", ANY)])})
        self.assertEqual(len(made.commands), 2)

    def test_letters_that_stand_twice_among_known_options(self):
        one, other = option("one", "x"), option("other", "x")
        self.bad("letters", Table, [one, other])
        self.bad("letters", Table, [one, option("third", "y"), other])
        self.bad("letters", Table, [one], [], {"go": Table([]), "on": Table([other])}, ["far"])
        self.bad("letters", Table, [one], [], {"go": Table([other])}, ["far", "alone"])
        for traits in [[], ["alone"], ["mixed", "ends"]]:
            self.assertEqual(len(Table([one], [], {"go": Table([other])}, traits).options), 1)
        for traits in [[], ["far"]]:
            self.assertEqual(len(Table([], [], {"go": Table([one]), "on": Table([other])}, traits).commands), 2)

    def test_no_letter_is_no_letter_twice(self):
        made = Table([option("a"), option("b")], [], {"go": Table([option("c"), option("d")])}, ["far"])
        self.assertEqual(len(made.options), 2)

    def test_the_first_bad_part_is_told(self):
        twice = [option("a", "x"), option("b", "x"), option("a", "x")]
        self.bad("options", Table, None, None, [], ["alone"], None)
        self.bad("operands", Table, twice, None, [], ["alone"], None)
        self.bad("commands", Table, twice, [], [], ["alone"], None)
        self.bad("traits", Table, twice, [], {}, ["alone"], None)
        self.bad("conditions", Table, twice, [], {}, [], None)
        self.bad("names", Table, twice, [], {}, [], [])
        self.bad("letters", Table, twice[:2], [], {}, [], [])

    def test_changing_what_was_given_changes_nothing(self):
        options, operands, traits = [option("a"), option("b")], [Operand("file", ANY)], ["mixed", "far"]
        commands, conditions = {"go": Table([])}, [("needs", "a", "b")]
        made = Table(options, operands, commands, traits, conditions)
        like = Table(tuple(options), tuple(operands), dict(commands), tuple(traits), tuple(conditions))
        for given in [options, operands, commands, traits, conditions]:
            given.clear()
        self.assertEqual(made, like)
        self.assertEqual(len(made.options) + len(made.operands) + len(made.commands) + len(made.traits), 6)
        self.assertEqual(made.conditions, (("needs", "a", "b"),))

    def test_arguments_are_not_changed(self):
        options, traits = [option("b"), option("a")], ["mixed", "ends"]
        commands = {"two": Table([]), "one": Table([])}
        Table(options, [], commands, traits)
        self.assertEqual(options, [option("b"), option("a")])
        self.assertEqual((traits, list(commands)), (["mixed", "ends"], ["two", "one"]))

    def test_option_by_name(self):
        deep, deeper = option("deep", "a"), option("deeper", "b")
        made = Table([option("top"), option("other")], [Operand("file", ANY)],
                     {"go": Table([deep], [Operand("from", ANY)]), "on": Table([deeper])})
        self.assertEqual(made.option("top"), option("top"))
        self.assertEqual(made.option("other"), option("other"))
        self.assertEqual(made.option("deep"), deep)
        self.assertEqual(made.option("deeper"), deeper)
        for name in ["", "file", "from", "go", "to", "a", "dee", None, 1, ["top"]]:
            self.assertIsNone(made.option(name))

    def test_equality(self):
        def table(options=("a", "b"), operands=("file",), commands=("go",), traits=("mixed", "ends"),
                  conditions=(("needs", "a", "b"),)):
            return Table([option(name) for name in options], [Operand(name, ANY) for name in operands],
                         {name: Table([option("z" + name)]) for name in commands}, traits, conditions)
        self.assertTrue(table() == table())
        self.assertTrue(table(traits=("ends", "mixed")) == table())
        self.assertTrue(table(commands=("go", "on")) == table(commands=("on", "go")))
        for other in [table(options=("b", "a")), table(options=("a", "b", "c")), table(operands=("files",)),
                      table(operands=()), table(commands=()), table(commands=("on",)), table(traits=("mixed",)),
                      table(conditions=()), table(conditions=(("needs", "b", "a"),)), None, "table", option("a"), {}]:
            self.assertFalse(table() == other)
            self.assertTrue(table() != other)


if __name__ == "__main__":
    unittest.main()
