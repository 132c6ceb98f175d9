"""The machine of a table and its measures: points [20] to [24]."""

import unittest

from switchyard.machines import CAME, STOP, Machine, alphabet, measures
from switchyard.readings import readings
from switchyard.tables import Operand, Option, Table
from tests.oracle import FIRST, Oracle
from tests.samples import sample_lists, sample_table, tables

ANY = ("any",)
NOTHING = ("nothing",)
NUMBER = ("number", -3, 12)
CHOSEN = ("chosen", "a", "ab", "b")


def option(name, letter="", takes=NOTHING, low=0, high=None):
    return Option(name, letter, takes, low, high)


def place(path="", group=0, words=0, over=0, pending=(), counts=(), part=()):
    return (path, group, words, over, pending, counts, part)


class Moves(unittest.TestCase):
    def check(self, table, start, sign, *moves):
        machine = Machine(table)
        told = machine.moves(start, sign)
        self.assertIsInstance(told, list)
        self.assertEqual(sorted(told), sorted(moves), (start, sign))
        self.assertEqual(sorted(machine.moves(start, sign)), sorted(moves))

    def check_part(self, table, start, sign, later, *marks):
        """That one move leads from a part to another one, and nothing else changes."""
        self.check(table, start, sign, ((*start[:6], later), marks))


class BetweenWords(Moves):
    def test_marks(self):
        self.assertEqual((CAME, STOP), ("came", "stop"))

    def test_nothing_begins_in_an_empty_table(self):
        for sign in ["", "a", "=", "A"]:
            self.check(Table([]), place(), sign)
        self.check(Table([]), place(), "-", (place(part=("dash", "", "")), ()))

    def test_dash_while_options_are_not_over(self):
        table = Table([option("all", "a")])
        self.check(table, place(), "-", (place(part=("dash", "", "")), ()))
        for over in [1, 2]:
            self.check(table, place(over=over), "-")

    def test_a_value_that_must_be(self):
        table = Table([option("one", "o", ("one", ANY)), option("many", "m", ("some", ANY, 2, 3))], [Operand("f", ANY)])
        for pending in [("one", 0), ("many", 0), ("many", 1)]:
            start = place(pending=pending)
            tape = pending[0]
            self.check(table, start, "x", (place(pending=pending, part=("value", tape, ".")), ((tape, "x"),)))
            self.check(table, start, "-", (place(pending=pending, part=("value", tape, "-")), ((tape, "-"),)))
        self.check(table, place(pending=("one", 0)), "", (place(), (("one", STOP),)))
        self.check(table, place(pending=("many", 0)), "", (place(pending=("many", 1)), (("many", STOP),)))
        self.check(table, place(pending=("many", 1)), "", (place(pending=("many", 2)), (("many", STOP),)))

    def test_a_value_that_may_be(self):
        table = Table([option("many", "m", ("some", ANY, 1, 2))], [Operand("f", ANY, 0, None)], {"go": Table([])})
        start = place(pending=("many", 1))
        value = (place(pending=("many", 1), part=("value", "many", ".")), (("many", "x"),))
        self.check(table, start, "x", value, (place(part=("operand", "f", ".")), (("f", "x"),)))
        self.check(
            table, start, "-",
            (place(pending=("many", 1), part=("value", "many", "-")), (("many", "-"),)),
            (place(part=("dash", "", "")), ()),
            (place(part=("operand", "f", "-")), (("f", "-"),)),
        )
        self.check(table, start, "", (place(), (("many", STOP),)), (place(over=1), (("f", STOP),)))
        self.check(
            table, start, "g",
            (place(pending=("many", 1), part=("value", "many", ".")), (("many", "g"),)),
            (place(part=("operand", "f", ".")), (("f", "g"),)),
            (place(part=("command", "", "g")), (("", "g"),)),
        )

    def test_values_without_end(self):
        table = Table([option("any", "", ("some", CHOSEN, 0, None)), option("two", "", ("some", CHOSEN, 2, None))])
        self.check(
            table, place(pending=("any", 0)), "b",
            (place(pending=("any", 0), part=("value", "any", "b")), (("any", "b"),)),
        )
        self.check(
            table, place(pending=("any", 0), part=("value", "any", "b")), "",
            (place(pending=("any", 0)), (("any", STOP),)),
        )
        for had, later in [(0, 1), (1, 2), (2, 2)]:
            self.check(
                table, place(pending=("two", had), part=("value", "two", "b")), "",
                (place(pending=("two", later)), (("two", STOP),)),
            )

    def test_groups_of_operands(self):
        groups = [Operand("f", ANY, 1, 2), Operand("g", ANY, 0, 1), Operand("h", ANY, 1, None), Operand("i", ANY, 0, 1)][:3]
        table = Table([], groups, None, ("mixed",))
        one, two, three = [(name, "x") for name in "fgh"]
        self.check(table, place(), "x", (place(part=("operand", "f", ".")), (one,)))
        self.check(
            table, place(words=1), "x",
            (place(words=1, part=("operand", "f", ".")), (one,)),
            (place(group=1, part=("operand", "g", ".")), (two,)),
            (place(group=2, part=("operand", "h", ".")), (three,)),
        )
        self.check(
            table, place(words=2), "x",
            (place(group=1, part=("operand", "g", ".")), (two,)),
            (place(group=2, part=("operand", "h", ".")), (three,)),
        )
        self.check(table, place(group=1, words=1), "x", (place(group=2, part=("operand", "h", ".")), (three,)))
        self.check(table, place(group=2, words=1), "x", (place(group=2, words=1, part=("operand", "h", ".")), (three,)))
        self.check(table, place(group=2), "", (place(group=2, words=1), (("h", STOP),)))

    def test_operands_without_end(self):
        table = Table([], [Operand("f", ANY, 2, None), Operand("g", CHOSEN)], None, ("mixed",))
        for had, later in [(0, 1), (1, 2), (2, 2)]:
            start = place(words=had, part=("operand", "f", "."))
            self.check(table, start, "", (place(words=later), (("f", STOP),)))
        self.check(table, place(words=1), "b", (place(words=1, part=("operand", "f", ".")), (("f", "b"),)))
        self.check(
            table, place(words=2), "b",
            (place(words=2, part=("operand", "f", ".")), (("f", "b"),)),
            (place(group=1, part=("operand", "g", "b")), (("g", "b"),)),
        )

    def test_commands(self):
        part = Table([], [Operand("deep", CHOSEN)], None)
        table = Table([], [Operand("f", NUMBER)], {"go": part, "gx": Table([]), "up": Table([])})
        begun = (place(words=1, over=1, part=("command", "", "g")), (("", "g"),))
        self.check(table, place(), "g")
        self.check(table, place(words=1, over=1), "g", begun)
        self.check(table, place(words=1, over=1), "x")
        self.check(table, place(words=1, over=1), "")
        self.check(table, place(path="go", part=()), "g")
        self.check(table, place(path="go"), "a", (place(path="go", part=("operand", "deep", "a")), (("deep", "a"),)))


class WithinTexts(Moves):
    def setUp(self):
        options = [option("any", "", ("one", ANY)), option("chosen", "", ("one", CHOSEN)), option("number", "", ("one", NUMBER))]
        self.options = options
        self.table = Table(options, [Operand("f", ANY, 0, None)])

    def value(self, name, text, over=0):
        return place(pending=(name, 0), over=over, part=("value", name, text))

    def test_chosen_words(self):
        for text, sign in [("a", "b")]:
            self.check_part(self.table, self.value("chosen", text), sign, ("value", "chosen", "ab"), ("chosen", "b"))
        for text, sign in [("a", "a"), ("ab", "b"), ("b", "a"), ("a", "-"), ("a", "A")]:
            self.check(self.table, self.value("chosen", text), sign)
        for text in ["a", "ab", "b"]:
            self.check(self.table, self.value("chosen", text), "", (place(), (("chosen", STOP),)))
        for sign in ["", "-", "c"]:
            self.check(self.table, place(pending=("chosen", 0)), sign)

    def test_numbers(self):
        start = place(pending=("number", 0))
        self.check(self.table, start, "-", (self.value("number", "-"), (("number", "-"),)))
        self.check(self.table, start, "1", (self.value("number", "1"), (("number", "1"),)))
        self.check(self.table, start, "")
        self.check_part(self.table, self.value("number", "-"), "3", ("value", "number", "-3"), ("number", "3"))
        self.check_part(self.table, self.value("number", "1"), "2", ("value", "number", "12"), ("number", "2"))
        for text, sign in [("-", "4"), ("-", "0"), ("-", "-"), ("0", "0"), ("1", "3"), ("12", "0"), ("-", "")]:
            self.check(self.table, self.value("number", text), sign)
        for text in ["-3", "-1", "0", "1", "12"]:
            self.check(self.table, self.value("number", text), "", (place(), (("number", STOP),)))

    def test_any_word(self):
        self.check(self.table, self.value("any", "."), "", (place(), (("any", STOP),)))
        self.check(self.table, self.value("any", "-"), "", (place(), (("any", STOP),)))
        for sign in ["a", "-", "=", "Z"]:
            self.check_part(self.table, self.value("any", "."), sign, ("value", "any", "."), ("any", sign))
            self.check(self.table, self.value("any", "-"), sign)

    def test_dash_words(self):
        for traits, later in [((), None), (("ends",), None), (("dashed",), "."), (("dashed", "ends"), "--")]:
            table = Table(self.options, [Operand("f", ANY, 0, None)], None, traits)
            for start in [self.value("any", "-"), place(part=("operand", "f", "-"))]:
                what, name, _ = start[6]
                if later is None:
                    self.check(table, start, "-")
                    self.check(table, start, "x")
                else:
                    self.check_part(table, start, "-", (what, name, later), (name, "-"))
                    self.check_part(table, start, "x", (what, name, "."), (name, "x"))
        for start in [self.value("any", "--"), place(part=("operand", "f", "--"))]:
            what, name, _ = start[6]
            self.check(table, start, "")
            self.check_part(table, start, "-", (what, name, "."), (name, "-"))
            self.check_part(table, start, "x", (what, name, "."), (name, "x"))

    def test_dash_words_when_options_are_over(self):
        for traits in [(), ("ends",), ("dashed", "ends"), ("mixed",)]:
            table = Table(self.options, [Operand("f", ANY, 0, None)], None, traits)
            for over in [1, 2]:
                start = place(over=over)
                self.check(table, start, "-", (place(over=over, part=("operand", "f", ".")), (("f", "-"),)))
                self.check_part(table, place(over=over, part=("operand", "f", ".")), "-", ("operand", "f", "."), ("f", "-"))
                behind = place(over=over)
                self.check(table, place(over=over, part=("operand", "f", ".")), "", (behind, (("f", STOP),)))

    def test_attached(self):
        for traits in [(), ("dashed", "ends")]:
            table = Table(self.options, [], None, traits)
            start = place(part=("attached", "any", ""))
            for sign in ["-", "x", "="]:
                self.check_part(table, start, sign, ("attached", "any", "."), ("any", sign))
                self.check_part(table, place(part=("attached", "any", ".")), sign, ("attached", "any", "."), ("any", sign))
            for text in ["", "."]:
                self.check(table, place(part=("attached", "any", text)), "", (place(), (("any", STOP),)))
            self.check_part(table, place(part=("attached", "chosen", "")), "a", ("attached", "chosen", "a"), ("chosen", "a"))
            self.check(table, place(part=("attached", "chosen", "")), "")
            self.check(table, place(part=("attached", "chosen", "ab")), "", (place(), (("chosen", STOP),)))
            self.check(table, place(part=("attached", "chosen", "")), "c")

    def test_words_of_a_command(self):
        table = Table([], [], {"go": Table([]), "gone": Table([])})
        self.check_part(table, place(part=("command", "", "g")), "o", ("command", "", "go"), ("", "o"))
        self.check_part(table, place(part=("command", "", "go")), "n", ("command", "", "gon"), ("", "n"))
        for text, sign in [("g", "x"), ("gone", "x"), ("g", ""), ("gon", "")]:
            self.check(table, place(part=("command", "", text)), sign)
        for over, later in [(0, 0), (1, 0), (2, 2)]:
            for text in ["go", "gone"]:
                start = place(group=2, words=1, over=over, counts=(("a", 1),), part=("command", "", text))
                behind = place(path=text, over=later, counts=(("a", 1),))
                self.check(table, start, "", (behind, (("", STOP),)))

    def test_operands_end_options(self):
        for traits, over, later in [((), 0, 1), ((), 1, 1), ((), 2, 2), (("mixed",), 0, 0), (("mixed",), 2, 2)]:
            table = Table([], [Operand("f", ANY, 0, 2)], None, traits)
            start = place(over=over, words=1, part=("operand", "f", "."))
            self.check(table, start, "", (place(over=later, words=2), (("f", STOP),)))
        part = Table([], [Operand("deep", ANY)])
        for traits, part_traits, later in [(("mixed",), (), 1), ((), ("mixed",), 0)]:
            part = Table([], [Operand("deep", ANY)], None, part_traits)
            table = Table([], [], {"go": part}, traits)
            start = place(path="go", part=("operand", "deep", "."))
            self.check(table, start, "", (place(path="go", over=later, words=1), (("deep", STOP),)))


class WithinOptions(Moves):
    def setUp(self):
        self.options = [
            option("all", "a", NOTHING, 0, 2), option("one", "o", ("one", CHOSEN)), option("maybe", "m", ("maybe", ANY)),
            option("many", "s", ("some", ANY, 0, None), 2), option("onely", ""),
        ]
        self.table = Table(self.options, [], None, ())

    def test_from_dash(self):
        start = place(part=("dash", "", ""))
        self.check(self.table, start, "-", (place(part=("dashes", "", "")), ()))
        self.check(self.table, start, "a", (place(counts=(("all", 1),), part=("letter", "all", "")), (("all", CAME),)))
        self.check(self.table, start, "o", (place(part=("letter", "one", "")), (("one", CAME),)))
        self.check(self.table, start, "s", (place(counts=(("many", 1),), part=("letter", "many", "")), (("many", CAME),)))
        for sign in ["", "x", "=", "l", "A"]:
            self.check(self.table, start, sign)

    def test_counts(self):
        for had, later in [((), 1), ((("all", 1),), 2)]:
            start = place(counts=had, part=("dash", "", ""))
            behind = place(counts=(("all", later),), part=("letter", "all", ""))
            self.check(self.table, start, "a", (behind, (("all", CAME),)))
        self.check(self.table, place(counts=(("all", 2),), part=("dash", "", "")), "a")
        self.check(self.table, place(counts=(("all", 2),), part=("long", "", "all")), "")
        for had, later in [(1, 2), (2, 2)]:
            start = place(counts=(("many", had),), part=("dash", "", ""))
            behind = place(counts=(("many", later),), part=("letter", "many", ""))
            self.check(self.table, start, "s", (behind, (("many", CAME),)))
        both = place(counts=(("many", 1),), part=("dash", "", ""))
        behind = place(counts=(("all", 1), ("many", 1)), part=("letter", "all", ""))
        self.check(self.table, both, "a", (behind, (("all", CAME),)))

    def test_conditions_count(self):
        table = Table([option("a", "a"), option("b", "b"), option("c", "c")], [], None, (), [("needs", "a", "b"), ("some", ("a",))])
        for had in [(), (("a", 1),)]:
            start = place(counts=had, part=("dash", "", ""))
            self.check(table, start, "a", (place(counts=(("a", 1),), part=("letter", "a", "")), (("a", CAME),)))
        self.check(table, place(part=("dash", "", "")), "c", (place(part=("letter", "c", "")), (("c", CAME),)))

    def test_letters(self):
        start = place(part=("letter", "all", ""))
        self.check(self.table, start, "", (place(), ()))
        self.check(self.table, start, "o", (place(part=("letter", "one", "")), (("one", CAME),)))
        self.check(self.table, start, "x")
        self.check(self.table, start, "=")
        self.check(self.table, start, "-")

    def test_letters_with_values(self):
        start = place(part=("letter", "one", ""))
        self.check(self.table, start, "", (place(pending=("one", 0)), ()))
        self.check(self.table, start, "a", (place(part=("attached", "one", "a")), (("one", "a"),)))
        self.check(self.table, start, "o")
        start = place(part=("letter", "maybe", ""))
        self.check(self.table, start, "", (place(), ()))
        attached = (place(part=("attached", "maybe", ".")), (("maybe", "a"),))
        letter = (place(counts=(("all", 1),), part=("letter", "all", "")), (("all", CAME),))
        self.check(self.table, start, "a", attached, letter)
        self.check(self.table, start, "=", (place(part=("attached", "maybe", ".")), (("maybe", "="),)))
        full = place(counts=(("all", 2),), part=("letter", "maybe", ""))
        self.check(self.table, full, "a", (place(counts=(("all", 2),), part=("attached", "maybe", ".")), (("maybe", "a"),)))
        start = place(part=("letter", "many", ""))
        self.check(self.table, start, "", (place(pending=("many", 0)), ()))
        for sign in ["a", "x", "="]:
            self.check(self.table, start, sign)

    def test_from_dashes(self):
        start = place(part=("dashes", "", ""))
        self.check(self.table, start, "")
        self.check(Table(self.options, [], None, ("ends",)), start, "", (place(over=2), ()))
        for sign in "aom":
            self.check(self.table, start, sign, (place(part=("long", "", sign)), ()))
        for sign in ["=", "-", "s", "l"]:
            self.check(self.table, start, sign)

    def test_long_names(self):
        self.check(self.table, place(part=("long", "", "on")), "e", (place(part=("long", "", "one")), ()))
        self.check(self.table, place(part=("long", "", "one")), "l", (place(part=("long", "", "onel")), ()))
        self.check(self.table, place(part=("long", "", "on")), "l")
        self.check(self.table, place(part=("long", "", "all")), "", (place(counts=(("all", 1),)), (("all", CAME),)))
        self.check(self.table, place(part=("long", "", "maybe")), "", (place(), (("maybe", CAME),)))
        self.check(self.table, place(part=("long", "", "one")), "", (place(pending=("one", 0)), (("one", CAME),)))
        self.check(
            self.table, place(part=("long", "", "many")), "",
            (place(pending=("many", 0), counts=(("many", 1),)), (("many", CAME),)),
        )
        for name in ["one", "maybe"]:
            behind = place(part=("attached", name, ""))
            self.check(self.table, place(part=("long", "", name)), "=", (behind, ((name, CAME),)))
        for name in ["all", "many", "on", "onely"]:
            self.check(self.table, place(part=("long", "", name)), "=")
        for text in ["al", "on", "onel"]:
            self.check(self.table, place(part=("long", "", text)), "")

    def test_beginnings(self):
        for trait, ways in [("abbreviated", []), ("guessed", ["maybe", "many"])]:
            table = Table(self.options, [], None, (trait,))
            for text, names in [("al", ["all"]), ("m", ways), ("ma", ways), ("may", ["maybe"]), ("one", ["one"]), ("onel", ["onely"])]:
                told = Machine(table).moves(place(part=("long", "", text)), "")
                self.assertEqual(sorted(marks for _, marks in told), sorted(((name, CAME),) for name in names), text)
        self.check(
            table, place(part=("long", "", "m")), "=", (place(part=("attached", "maybe", "")), (("maybe", CAME),)),
        )
        full = place(counts=(("all", 2),), part=("long", "", "a"))
        self.check(table, full, "")

    def test_far(self):
        part = Table([option("deep", "d"), option("omit", "")], [], None, ("abbreviated",))
        outer = [option("omega", "a", ("one", ANY), 0, 1), option("all", "b")]
        near, far = Table(outer, [], {"go": part}), Table(outer, [], {"go": part}, ("far",))
        dash, dashes = place(path="go", part=("dash", "", "")), place(path="go", part=("dashes", "", ""))
        letter = place(path="go", counts=(("omega", 1),), part=("letter", "omega", ""))
        self.check(near, dash, "a")
        self.check(far, dash, "a", (letter, (("omega", CAME),)))
        self.check(near, dashes, "a")
        self.check(far, dashes, "a", (place(path="go", part=("long", "", "a")), ()))
        self.check(near, place(path="go", part=("long", "", "o")), "", (place(path="go"), (("omit", CAME),)))
        self.check(far, place(path="go", part=("long", "", "o")), "")
        self.check(far, place(path="go", part=("long", "", "al")), "", (place(path="go"), (("all", CAME),)))
        self.check(far, place(part=("long", "", "al")), "")
        self.check(far, place(part=("dash", "", "")), "d")
        self.check(far, letter, "x", (place(path="go", counts=(("omega", 1),), part=("attached", "omega", ".")), (("omega", "x"),)))

    def test_no_option_is_known_where_options_are_over(self):
        for over in [1, 2]:
            self.check(self.table, place(over=over, part=("dash", "", "")), "a")
            self.check(self.table, place(over=over, part=("dashes", "", "")), "a")
            self.check(self.table, place(over=over, part=("long", "", "on")), "e")
            for sign in ["", "="]:
                self.check(self.table, place(over=over, part=("long", "", "one")), sign)
            self.check(self.table, place(over=over, part=("letter", "all", "")), "o")

    def test_traits_are_those_of_the_path(self):
        part = Table([option("deep", "d")], [Operand("f", ANY)], None, ("ends", "dashed"))
        table = Table([option("out", "o", ("one", ANY))], [], {"go": part}, ("far",))
        self.check(table, place(part=("dashes", "", "")), "")
        self.check(table, place(path="go", part=("dashes", "", "")), "", (place(path="go", over=2), ()))
        start = place(path="go", pending=("out", 0), part=("value", "out", "-"))
        self.check_part(table, start, "-", ("value", "out", "--"), ("out", "-"))
        self.check(table, place(pending=("out", 0), part=("value", "out", "-")), "-")


class Ends(unittest.TestCase):
    def check(self, table, start, holds):
        self.assertIs(Machine(table).is_end(start), holds, start)

    def test_parts_are_no_ends(self):
        table = Table([option("all", "a")], [Operand("f", ANY, 0, 1)])
        self.check(table, place(), True)
        for part in [("dash", "", ""), ("letter", "all", ""), ("operand", "f", "."), ("long", "", "all")]:
            self.check(table, place(part=part), False)

    def test_pending(self):
        table = Table([option("one", "", ("one", ANY)), option("many", "", ("some", ANY, 1, None))])
        self.check(table, place(pending=("one", 0)), False)
        self.check(table, place(pending=("many", 0)), False)
        self.check(table, place(pending=("many", 1)), True)

    def test_operands(self):
        table = Table([], [Operand("f", ANY, 0, 1), Operand("g", ANY, 1, 1), Operand("h", ANY, 0, None)])
        for group, words, holds in [(0, 0, False), (0, 1, False), (1, 0, False), (1, 1, True), (2, 0, True)]:
            self.check(table, place(group=group, words=words), holds)

    def test_commands(self):
        part = Table([option("deep", "d", NOTHING, 1)], [Operand("deeper", ANY)])
        for traits, holds in [((), False), (("alone",), True), (("far",), False)]:
            table = Table([option("all", "a", NOTHING, 1)], [Operand("f", ANY)], {"go": part}, traits)
            self.check(table, place(words=1, counts=(("all", 1),)), holds)
            self.check(table, place(path="go", words=1, counts=(("all", 1), ("deep", 1))), True)
            self.check(table, place(path="go", words=1, counts=(("all", 1),)), False)
            self.check(table, place(path="go", words=1, counts=(("deep", 1),)), False)
            self.check(table, place(path="go", counts=(("all", 1), ("deep", 1))), False)

    def test_conditions(self):
        conditions = [("needs", "a", "b"), ("without", "b", "c"), ("some", ("a", "c"))]
        table = Table([option("a"), option("b"), option("c")], [], None, (), conditions)
        for names, holds in [("", False), ("a", False), ("b", False), ("c", True), ("ab", True), ("ac", False), ("abc", False)]:
            self.check(table, place(counts=tuple((name, 1) for name in names)), holds)
        outer = Table([option("d")], [], {"go": table}, (), [("some", ("d",))])
        self.check(outer, place(path="go", counts=(("c", 1), ("d", 1))), True)
        self.check(outer, place(path="go", counts=(("c", 1),)), False)
        self.check(outer, place(path="go", counts=(("d", 1),)), False)


def capped(table, start):
    """A place of the oracle, which counts without end, with the caps and limits of [21]."""
    path, group, words, over, pending, counts, part = start
    current = table.commands[path] if path else table
    if current.operands:
        words = min(words, cap(current.operands[group].few, current.operands[group].many))
    if pending and table.option(pending[0]).takes[0] == "some":
        pending = (pending[0], min(pending[1], cap(*table.option(pending[0]).takes[2:])))
    kept = tuple((name, min(many, limit(table, name))) for name, many in counts if limit(table, name) > 0)
    return (path, group, words, over, pending, kept, part)


def cap(few, many):
    return few if many is None else many


def limit(table, name):
    found = table.option(name)
    if found.high is not None:
        return found.high
    conditions = [one for part in [table, *table.commands.values()] for one in part.conditions]
    named = [one[1] if one[0] == "some" else one[1:] for one in conditions]
    return max(found.low, 1 if any(name in names for names in named) else 0)


class Samples(unittest.TestCase):
    def test_all_places_beside_those_that_are_found_by_the_points(self):
        for seed, table in tables(0, 90):
            machine, oracle = Machine(table), Oracle(table)
            signs = alphabet([table], "")
            found = {FIRST: True}
            row = [FIRST]
            while row and len(found) < 700:
                start = row.pop()
                self.assertEqual(machine.is_end(start), oracle.is_end(start), (seed, start))
                for sign in signs:
                    moves = sorted(machine.moves(start, sign))
                    self.assertEqual(moves, sorted((capped(table, behind), marks) for behind, marks in oracle.moves(start, sign)))
                    row += [behind for behind, _ in moves if behind not in found]
                    found.update((behind, True) for behind, _ in moves)
            between = [start for start in found if start[6] == ()]
            self.assertLessEqual(len(between), measures(table)[0], seed)

    def test_what_ways_to_ends_tell_is_the_readings(self):
        for seed, table in tables(1000, 1200):
            machine, oracle = Machine(table), Oracle(table)
            for words in sample_lists(table, seed, 12):
                ways = {(FIRST, ()): True}
                for sign in [sign for word in words for sign in [*word, ""]]:
                    later = {}
                    for start, tapes in ways:
                        for behind, marks in machine.moves(start, sign):
                            told = dict(tapes)
                            for tape, mark in marks:
                                told[tape] = told.get(tape, ()) + (mark,)
                            later[behind, tuple(sorted(told.items()))] = True
                    ways = later
                keys = {oracle.key(start, dict(tapes)) for start, tapes in ways if machine.is_end(start)}
                self.assertEqual(sorted(keys), [reading.key() for reading in readings(table, words)], (seed, words))

    def test_places_are_not_kept(self):
        machine = Machine(sample_table(3))
        told = machine.moves(FIRST, "-")
        told.append("more")
        self.assertNotIn("more", machine.moves(FIRST, "-"))

    def test_equality(self):
        self.assertTrue(Machine(sample_table(3)) == Machine(sample_table(3)))
        self.assertFalse(Machine(sample_table(3)) == Machine(sample_table(4)))
        self.assertFalse(Machine(sample_table(3)) == sample_table(3))


class Measures(unittest.TestCase):
    def check(self, table, places, signs):
        self.assertEqual(measures(table), (places, signs))

    def test_empty(self):
        self.check(Table([]), 3, 8)

    def test_operands(self):
        self.check(Table([], [Operand("f", ANY)]), 6, 8)
        self.check(Table([], [Operand("f", ANY, 0, None)]), 3, 8)
        self.check(Table([], [Operand("f", ANY, 2, None)]), 9, 8)
        self.check(Table([], [Operand("f", CHOSEN, 1, 3), Operand("g", NUMBER, 0, 1)]), 18, 8 + 4 + 6 + 10 + 6)

    def test_what_options_take(self):
        self.check(Table([option("all", "a")]), 3, 11)
        self.check(Table([option("all", "", ("maybe", CHOSEN))]), 3, 15)
        self.check(Table([option("all", "", ("one", CHOSEN))]), 6, 15)
        self.check(Table([option("all", "", ("some", ("number", 9, 10), 0, None))]), 6, 14)
        self.check(Table([option("all", "", ("some", ANY, 3, None))]), 15, 11)
        self.check(Table([option("all", "", ("some", ANY, 3, 5))]), 21, 11)
        self.check(Table([option("a", "", ("some", ANY, 3, 5)), option("b", "", ("one", ("number", -9, 0)))]), 24, 10 + 19)

    def test_limits(self):
        self.check(Table([option("a", "", NOTHING, 2)]), 9, 9)
        self.check(Table([option("a", "", NOTHING, 2, 5)]), 18, 9)
        self.check(Table([option("a", "", NOTHING, 0, 1), option("b", "", NOTHING, 1, 2)]), 18, 10)
        for condition, places in [(("needs", "a", "b"), 12), (("without", "b", "c"), 12), (("some", ("c",)), 6)]:
            self.check(Table([option("a"), option("b"), option("c")], [], None, (), [condition]), places, 11)
        self.check(Table([option("a", "", NOTHING, 2), option("b", "", NOTHING, 0, 3)], [], None, (), [("needs", "a", "b")]), 36, 10)

    def test_commands(self):
        part = Table([option("b", "", NOTHING, 0, 1), option("c", "", ("one", ANY))], [Operand("f", ANY, 0, 3)])
        outer = [option("d", "", NOTHING, 0, 2), option("e", "", ("some", CHOSEN, 0, 1))]
        self.check(Table(outer, [], {"go": part}), 3 * 3 * 3 + 3 * 4 * 2 * 2 * 3, 8 + 2 + 2 + 6)
        self.check(Table(outer, [], {"go": part}, ("far",)), 3 * 3 * 3 + 3 * 4 * 4 * 2 * 3, 8 + 2 + 2 + 6)
        self.check(Table([], [], {"go": Table([]), "gone": Table([])}), 9, 14)


class Alphabet(unittest.TestCase):
    def test_signs(self):
        self.assertEqual(alphabet([Table([])], ""), ("", "-", "=", "A", "B"))
        self.assertEqual(alphabet([Table([option("ad1", "z")], [Operand("f", ANY)])], ""), ("", *"-1=ABadz"))
        self.assertEqual(alphabet([Table([], [Operand("file", ("chosen", "g", "h2"))])], ""), ("", *"-2=ABgh"))
        self.assertEqual(alphabet([Table([option("a", "", ("maybe", ("number", -1, 10)))])], ""), ("", *"-01=ABa".replace("01", "0123456789")))
        part = Table([option("b", "c", ("one", ("chosen", "d")))], [Operand("f", ("chosen", "e"))])
        self.assertEqual(alphabet([Table([], [], {"go": part})], ""), ("", *"-=ABbcdego"))
        self.assertEqual(alphabet([Table([option("a")]), Table([option("b")])], ""), ("", *"-=ABab"))

    def test_further_signs(self):
        self.assertEqual(alphabet([Table([])], "~A B-"), ("", *" -=ABCD~"))
        self.assertEqual(alphabet([Table([])], "BDFB"), ("", *"-=ABCDF"))
        self.assertEqual(alphabet([Table([])], "\u00e9\n"), ("", *"\n-=AB\u00e9"))
        capitals = "ABCDEFGHIJKLMNOPQRSTUVWXYZ"
        self.assertEqual(alphabet([Table([])], capitals[:24]), ("", *("-=" + capitals)))
        self.assertEqual(alphabet([Table([])], capitals[:25]), ("", *("-=" + capitals[:25])))


if __name__ == "__main__":
    unittest.main()
