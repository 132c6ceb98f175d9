"""Defaults: points [2] and [15]."""

import unittest

from switchyard.errors import BadLaying
from switchyard.laying import laid
from switchyard.readings import Reading, readings
from switchyard.tables import Operand, Option, Table

ANY = ("any",)
NOTHING = ("nothing",)
SUB = Table([Option("deep", "d", ("one", ("number", 0, 9))), Option("flag", "", NOTHING)], [Operand("to", ANY, 0, 1)])
TABLE = Table(
    [Option("add", "a", NOTHING), Option("out", "o", ("one", ANY)), Option("in", "i", ("maybe", ("chosen", "x", "y"))),
     Option("many", "m", ("some", ("number", -9, 99), 0, None))],
    [Operand("file", ("chosen", "f"), 0, None)], {"go": SUB}, ["alone", "mixed"])


def laid_below(words, defaults):
    reading, = readings(TABLE, words)
    return laid(TABLE, reading, defaults)


class Laying(unittest.TestCase):
    def test_all_values_one_behind_the_other(self):
        self.assertEqual(laid_below(["-o", "b", "-oa", "-m", "3", "1", "-m", "-m", "2", "-aa"], {}),
                         {"add": (), "in": (), "many": ("3", "1", "2"), "out": ("b", "a")})

    def test_the_options_of_the_reading(self):
        self.assertEqual(laid_below([], {}), {"add": (), "in": (), "many": (), "out": ()})
        reading = readings(TABLE, ["go", "-d1"])[0]
        self.assertEqual(reading.command, "go")
        self.assertEqual(laid(TABLE, reading, {}),
                         {"add": (), "deep": ("1",), "flag": (), "in": (), "many": (), "out": ()})

    def test_defaults_where_there_is_no_value(self):
        defaults = {"out": "", "many": "-9", "in": "x"}
        self.assertEqual(laid_below([], defaults), {"add": (), "in": ("x",), "many": ("-9",), "out": ("",)})
        self.assertEqual(laid_below(["-i", "-m"], defaults), {"add": (), "in": ("x",), "many": ("-9",), "out": ("",)})
        self.assertEqual(laid_below(["-iy", "-o", "z", "-m", "1"], defaults),
                         {"add": (), "in": ("y",), "many": ("1",), "out": ("z",)})
        self.assertEqual(laid_below(["-i", "-iy", "-i"], defaults)["in"], ("y",))
        self.assertEqual(laid_below(["-o", ""], {"out": "z"})["out"], ("",))

    def test_defaults_of_options_of_commands(self):
        self.assertEqual(laid_below([], {"deep": "3"}), {"add": (), "in": (), "many": (), "out": ()})
        reading = readings(TABLE, ["go"])[0]
        self.assertEqual(laid(TABLE, reading, {"deep": "3", "out": "-"}),
                         {"add": (), "deep": ("3",), "flag": (), "in": (), "many": (), "out": ("-",)})

    def bad(self, name, defaults):
        for words in [[], ["-o", "b", "-iy", "-m", "1"]]:
            with self.assertRaises(BadLaying) as caught:
                laid_below(words, defaults)
            self.assertEqual(caught.exception.name, name, defaults)

    def test_names_that_are_none_of_an_option(self):
        for name in ["", "none", "file", "to", "go", "o", "--out", None, 3, ("out",)]:
            self.bad(name, {name: "x"})

    def test_options_that_take_nothing(self):
        self.bad("add", {"add": ""})
        self.bad("flag", {"flag": "x"})

    def test_defaults_that_are_no_word_of_the_kind(self):
        for name, word in [("in", ""), ("in", "z"), ("in", "X"), ("many", "100"), ("many", "-10"), ("many", "01"),
                           ("many", "-0"), ("many", ""), ("deep", "10"), ("deep", "-1"), ("out", None), ("out", 1),
                           ("out", ("a",)), ("out", b"a"), ("many", 1), ("in", ["x"]), ("in", None)]:
            self.bad(name, {name: word})

    def test_the_first_wrong_one_as_the_dict_goes(self):
        self.bad("in", {"out": "a", "in": "z", "add": "x", "none": "x"})
        self.bad("none", {"out": "a", "none": "x", "in": "z", "add": "x"})
        self.bad("add", {"deep": "1", "add": "x", "none": "x", "in": "z"})
        self.bad("deep", {"deep": "x", "add": "x"})

    def test_what_is_given_is_not_changed_and_what_is_returned_is_new(self):
        defaults = {"out": "a", "in": "x"}
        reading, = readings(TABLE, ["-a"])
        like = Reading(reading.options, reading.operands, reading.command)
        found = laid(TABLE, reading, defaults)
        found["out"] = ()
        found["other"] = ()
        self.assertEqual((defaults, reading), ({"out": "a", "in": "x"}, like))
        self.assertEqual(laid(TABLE, reading, defaults)["out"], ("a",))
        self.assertIs(type(found), dict)


if __name__ == "__main__":
    unittest.main()
