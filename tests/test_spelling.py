"""Spelling: point [30]."""

import unittest

from switchyard.errors import TooLarge
from switchyard.machines import measures
from switchyard.readings import Reading, all_readings, readings
from switchyard.spelling import spelled
from switchyard.tables import Operand, Option, Table
from tests.brute import least_spelled, length_of
from tests.samples import sample_lists, tables

ANY = ("any",)
NOTHING = ("nothing",)
CHOSEN = ("chosen", "a", "b")
FIGURE = ("number", 0, 9)


def option(name, letter="", takes=NOTHING, low=0, high=None):
    return Option(name, letter, takes, low, high)


def operand(name, kind=ANY, few=0, many=None):
    return Operand(name, kind, few, many)


TABLE = Table(
    [option("all", "a", NOTHING, 0, 2), option("out", "o", ("one", ANY)), option("many", "m", ("some", ANY, 1, 2))],
    [operand("f")], None, ("ends",),
)


def told(all=(), out=(), many=(), f=()):
    return Reading({"all": all, "out": out, "many": many}, {"f": f}, "")


class Spelled(unittest.TestCase):
    def check(self, table, reading, *words):
        self.assertEqual(spelled(table, reading), words)
        self.assertIn(reading, all_readings(table, words))
        if length_of(words) <= 12:
            self.assertEqual(least_spelled(table, reading.key(), length_of(words)), words)

    def check_none(self, table, reading):
        self.assertIsNone(spelled(table, reading))

    def test_nothing(self):
        self.check(Table([]), Reading({}, {}, ""))
        self.check(TABLE, told())
        self.check_none(Table([option("a", "a", NOTHING, 1)]), Reading({"a": ()}, {}, ""))

    def test_options(self):
        self.check(TABLE, told(all=((),)), "-a")
        self.check(TABLE, told(all=((), ())), "-aa")
        self.check(TABLE, told(out=(("x",),)), "-ox")
        self.check(TABLE, told(out=(("",),)), "-o", "")
        self.check(TABLE, told(out=(("-",),)), "-o-")
        self.check(TABLE, told(out=(("--",),)), "-o--")
        self.check(TABLE, told(many=(("x",),)), "-m", "x")
        self.check(TABLE, told(many=(("x", ""), ("y",))), "-m", "x", "", "-m", "y")
        self.check(TABLE, told(all=((),), out=(("x",), ("a",))), "-aox", "-oa")
        self.check(TABLE, told(all=((),), out=(("b",), ("a",))), "-aob", "-oa")
        self.check(TABLE, told(all=((), ()), many=(("x", "y"),), out=(("z",),)), "-aam", "x", "y", "-oz")

    def test_operands(self):
        self.check(TABLE, told(f=("x", "y")), "x", "y")
        self.check(TABLE, told(f=("-x",)), "--", "-x")
        self.check(TABLE, told(f=("--", "-")), "--", "--", "-")
        self.check(TABLE, told(all=((),), f=("-x",)), "-a", "--", "-x")
        self.check(TABLE, told(many=(("x",),), f=("y",)), "-m", "x", "y")

    def test_words_that_end_options(self):
        options = [option("a", "a")]
        for outer, inner, words in [
            ((), (), None), (("ends",), (), ("-a", "--", "go", "-x")), ((), ("ends",), ("-a", "go", "--", "-x")),
            (("ends",), ("ends",), ("-a", "--", "go", "-x")), ((), ("dashed",), ("-a", "go", "-x")),
            (("dashed",), (), None), (("far",), ("ends",), ("-a", "go", "--", "-x")),
        ]:
            table = Table(options, [], {"go": Table([option("b", "b")], [operand("g")], None, inner)}, outer)
            reading = Reading({"a": ((),), "b": ()}, {"g": ("-x",)}, "go")
            self.assertEqual(spelled(table, reading), words)
            self.assertEqual(least_spelled(table, reading.key(), 14), words)
            both = Reading({"a": ((),), "b": ((),)}, {"g": ("-x",)}, "go")
            self.assertEqual(spelled(table, both), least_spelled(table, both.key(), 16))
        mixed = Table(options, [operand("f")], None, ("mixed",))
        self.check_none(mixed, Reading({"a": ((),)}, {"f": ("x", "-x")}, ""))
        self.check(Table(options, [operand("f")]), Reading({"a": ((),)}, {"f": ("x", "-x")}, ""), "-a", "x", "-x")
        self.check(Table(options, [operand("f")], None, ("mixed", "ends")), Reading({"a": ((),)}, {"f": ("x", "-x")}, ""),
                   "-a", "--", "x", "-x")

    def test_names_without_letters(self):
        table = Table([option("add"), option("adder", "", ("maybe", ANY))], [], None, ("abbreviated",))
        self.check(table, Reading({"add": ((),), "adder": ()}, {}, ""), "--add")
        self.check(table, Reading({"add": (), "adder": ((),)}, {}, ""), "--adde")
        self.check(table, Reading({"add": (), "adder": (("",), ())}, {}, ""), "--adde=", "--adde")
        guessed = Table([option("add"), option("bdder"), option("a", "b", ("maybe", CHOSEN))], [], None, ("guessed",))
        self.check(guessed, Reading({"add": ((),), "bdder": (), "a": ()}, {}, ""), "--ad")
        self.check(guessed, Reading({"add": (), "bdder": ((),), "a": (("a",),)}, {}, ""), "--b", "-ba")

    def test_ties(self):
        table = Table([option("a", "b"), option("b", "a"), option("c")], [], None, ("mixed",))
        self.check(table, Reading({"a": ((),), "b": ((),), "c": ()}, {}, ""), "-ab")
        self.check(table, Reading({"a": ((),), "b": ((),), "c": ((),)}, {}, ""), "--c", "-ab")
        mixed = Table([option("all", "a")], [operand("f")], None, ("mixed",))
        self.check(mixed, Reading({"all": ((),)}, {"f": ("b", "c")}, ""), "-a", "b", "c")
        self.check(mixed, Reading({"all": ((),)}, {"f": ("", "+")}, ""), "", "+", "-a")
        self.check(mixed, Reading({"all": ((), ())}, {"f": ("-",)}, ""), "-", "-aa")

    def test_commands(self):
        part = Table([option("b", "b", ("maybe", CHOSEN))], [operand("g", FIGURE)])
        table = Table([option("a", "a", ("one", ANY))], [], {"go": part}, ("far", "alone"))
        self.check(table, Reading({"a": ()}, {}, ""))
        self.check(table, Reading({"a": (), "b": ()}, {"g": ()}, "go"), "go")
        self.check(table, Reading({"a": (("x",),), "b": ()}, {"g": ()}, "go"), "-ax", "go")
        self.check(table, Reading({"a": (("x",),), "b": ((),)}, {"g": ("1",)}, "go"), "go", "-bax", "1")
        self.check(table, Reading({"a": (("x",),), "b": (("a",),)}, {"g": ("1",)}, "go"), "-ax", "go", "-ba", "1")

    def test_foreign_signs(self):
        self.check(TABLE, told(f=("A", "B")), "A", "B")
        self.check(TABLE, told(out=(("\u00e9 \n",),), f=("'",)), "-o\u00e9 \n", "'")
        self.check(TABLE, told(many=(("Z", "~"),)), "-m", "Z", "~")
        capitals = "ABCDEFGHIJKLMNOPQRSTUVWXYZ"
        self.check(TABLE, told(f=(capitals,)), capitals)

    def test_what_the_table_does_not_have(self):
        for reading in [
            Reading({"all": ((),), "out": ()}, {"f": ()}, ""),
            Reading({"all": ((),), "out": (), "many": (), "more": ()}, {"f": ()}, ""),
            Reading({"all": (), "out": (), "more": ()}, {"f": ()}, ""),
            Reading({"all": (), "out": (), "many": ()}, {}, ""),
            Reading({"all": (), "out": (), "many": ()}, {"f": (), "g": ()}, ""),
            Reading({"all": (), "out": (), "many": ()}, {"g": ("x",)}, ""),
            Reading({"all": (), "out": (), "many": (), "f": ()}, {}, ""),
            Reading({}, {}, ""),
            Reading({"all": (), "out": (), "many": ()}, {"f": ()}, "go"),
            Reading({"all": (), "out": (), "many": ()}, {"f": ()}, "--"),
        ]:
            self.check_none(TABLE, reading)

    def test_what_no_list_tells(self):
        for reading in [
            told(all=((), (), ())), told(all=(("x",),)), told(out=((),)), told(out=(("x", "y"),)), told(many=((),)),
            told(many=(("x", "y", "z"),)), told(many=(("-x",),)), told(many=(("--",),)),
        ]:
            self.check_none(TABLE, reading)
        table = Table([option("a", "a", ("maybe", CHOSEN))], [operand("f", FIGURE, 1, 1)], {"go": Table([option("b")])}, ("alone",))
        for a, f in [((("c",),), ("1",)), ((), ("x",)), ((), ()), ((("a", "b"),), ("1",)), ((), ("1", "2")), ((("",),), ("1",))]:
            self.check_none(table, Reading({"a": a}, {"f": f}, ""))
        self.check_none(table, Reading({"a": (), "b": ((),)}, {"f": ("1",)}, ""))
        self.check_none(table, Reading({"a": ()}, {"f": ("1",)}, "go"))
        self.check_none(table, Reading({"a": (), "b": (("x",),)}, {"f": ("1",)}, "go"))
        self.check_none(table, Reading({"a": (), "b": ()}, {"f": ("1",)}, "up"))
        self.assertEqual(spelled(table, Reading({"a": (), "b": ((),)}, {"f": ("1",)}, "go")), ("1", "go", "--b"))

    def test_conditions_and_bounds(self):
        options = [option("a", "a"), option("b", "b", NOTHING, 0, 2)]
        table = Table(options, [], None, (), [("needs", "a", "b")])
        self.check_none(table, Reading({"a": ((),), "b": ()}, {}, ""))
        self.check(table, Reading({"a": ((),), "b": ((), ())}, {}, ""), "-abb")
        self.check_none(table, Reading({"a": ((),), "b": ((), (), ())}, {}, ""))

    def test_long_readings(self):
        words = tuple(["x" * 300] * 5)
        table = Table([option("a", "a", ("some", ANY, 0, None))], [operand("f")])
        self.assertEqual(spelled(table, Reading({"a": (words,)}, {"f": words}, "")), ("-a", *words, *words))
        many = Table([option(name, name, NOTHING) for name in "abc"])
        reading = Reading({name: ((),) * 12 for name in "abc"}, {}, "")
        self.assertEqual(spelled(many, reading), ("-" + "a" * 12 + "b" * 12 + "c" * 12,))
        eight = Table([option("o" + name, name, ("one", ANY)) for name in "abcdefgh"])
        reading = Reading({"o" + name: ((name,),) for name in "abcdefgh"}, {}, "")
        self.assertEqual(spelled(eight, reading), tuple("-" + name * 2 for name in "abcdefgh"))

    def test_readings_with_many_comings(self):
        options = [option(f"o{at}", sign, NOTHING if at % 2 else ("one", FIGURE)) for at, sign in enumerate("abcdefgh")]
        table = Table(options, [operand("f")], None, ("ends",))
        comings = {f"o{at}": ((),) * 20 if at % 2 else (("1",),) * 20 for at in range(8)}
        words = ("-a1",) * 20 + ("-" + "b" * 20 + "c1",) + ("-c1",) * 19 + ("-" + "d" * 20 + "e1",) + ("-e1",) * 19
        words += ("-" + "f" * 20 + "g1",) + ("-g1",) * 18 + ("-" + "h" * 20 + "g1",)
        self.assertEqual(spelled(table, Reading(comings, {"f": ("x", "-y")}, "")), (*words, "x", "-y"))
        self.assertEqual(spelled(table, Reading(comings, {"f": ("-x", "-y")}, "")), (*words, "--", "-x", "-y"))
        for wrong in [(("x",),) * 20, ((),) * 20, (("1", "1"),), (("1",), ("",))]:
            self.assertIsNone(spelled(table, Reading({**comings, "o0": wrong}, {"f": ()}, "")))

    def test_readings_with_many_comings_behind_a_command(self):
        part = Table([option(f"i{sign}", sign, ("maybe", ANY)) for sign in "ab"], [operand("g")])
        options = [option(f"o{sign}", sign) for sign in "xyz"] + [option("ou", "u", ("one", ANY))]
        comings = {"ia": ((), ("v",), ()), "ib": ((), ("v",), ()), "ou": (("x",),) * 2}
        comings.update({f"o{sign}": ((),) * 9 for sign in "xyz"})
        reading = Reading(comings, {"f": ("a",), "g": ()}, "go")
        for traits, words in [
            ((), ("-ux", "-" + "x" * 9 + "y" * 9 + "z" * 9 + "ux", "a", "go", "-aav", "-abbv", "-b")),
            (("far",), ("-ux", "a", "go", "-aav", "-abbv", "-b" + "x" * 9 + "y" * 9 + "z" * 9 + "ux")),
        ]:
            table = Table(options, [operand("f", CHOSEN)], {"go": part}, traits)
            self.assertEqual(spelled(table, reading), words)
            self.assertIn(reading, all_readings(table, words))

    def test_samples(self):
        found = 0
        for seed, table in tables(300, 600):
            if measures(table)[0] > 120:
                continue
            for words in sample_lists(table, seed, 6):
                for reading in readings(table, words)[:2]:
                    least = spelled(table, reading)
                    self.assertIn(reading, all_readings(table, least), (seed, words))
                    self.assertLessEqual(length_of(least), length_of(words), (seed, words))
                    if length_of(least) <= 9:
                        found += 1
                        self.assertEqual(least, least_spelled(table, reading.key(), 9), (seed, words))
        self.assertGreater(found, 50)


class Sizes(unittest.TestCase):
    def test_tables_above_the_measures(self):
        numbers = ("number", -99, 99)
        large = Table([option("a", "", ("some", ANY, 9, 9)), option("b", "", NOTHING, 0, 3)])
        for table, number in [(large, 132), (Table([], [operand(name, numbers, 1, 1) for name in "abc"]), 1442)]:
            for reading in [Reading({}, {}, ""), Reading({}, {}, "go")]:
                with self.assertRaises(TooLarge) as caught:
                    spelled(table, reading)
                self.assertEqual(caught.exception.number, number)

    def test_tables_at_the_measures(self):
        table = Table([option("a", "a", NOTHING, 3, 3), option("b", "b", NOTHING, 9, 9)])
        self.assertEqual(measures(table)[0], 120)
        self.assertEqual(spelled(table, Reading({"a": ((),) * 3, "b": ((),) * 9}, {}, "")), ("-aaabbbbbbbbb",))


if __name__ == "__main__":
    unittest.main()
