"""The reader that never goes back: points [2] and [11]."""

import unittest

from switchyard.errors import BadWords
from switchyard.reader import Refused, read
from switchyard.readings import Reading, readings
from switchyard.tables import Operand, Option, Table
from tests.oracle import Oracle
from tests.samples import sample_lists, tables

ANY = ("any",)
NOTHING = ("nothing",)
NUMBER = ("number", -3, 12)
CHOSEN = ("chosen", "a", "b")


def option(name, letter="", takes=NOTHING, low=0, high=None):
    return Option(name, letter, takes, low, high)


def told(table, *words):
    """What comes, which operands have words, and the command; or the number at which the reader stops."""
    reading = read(table, words)
    if not reading:
        return reading.number
    parts = {name: worth for name, worth in {**reading.options, **reading.operands}.items() if worth}
    if reading.command:
        parts["command"] = reading.command
    return parts


class RefusedClass(unittest.TestCase):
    def test_number_and_bool(self):
        for number in [0, 1, 7]:
            self.assertEqual(Refused(number).number, number)
            self.assertIs(bool(Refused(number)), False)
        self.assertEqual(Refused(number=3).number, 3)

    def test_equality(self):
        self.assertTrue(Refused(1) == Refused(1))
        self.assertFalse(Refused(1) != Refused(1))
        for other in [Refused(0), Refused(2), 1, None, False, (1,), Reading({}, {}, "")]:
            self.assertFalse(Refused(1) == other)
            self.assertTrue(Refused(1) != other)


class WhatIsTold(unittest.TestCase):
    def test_a_reading(self):
        table = Table([option("add", "a"), option("out", "o", ("one", ANY))], [Operand("file", ANY, 0, None)])
        found = read(table, ["-a", "--out", "x", "y"])
        self.assertEqual(found, Reading({"add": ((),), "out": (("x",),)}, {"file": ("y",)}, ""))
        self.assertIsInstance(found, Reading)
        self.assertIs(bool(found), True)
        self.assertEqual(read(table, ("-a", "--out", "x", "y")), found)

    def test_the_empty_list(self):
        self.assertEqual(read(Table([]), []), Reading({}, {}, ""))
        self.assertEqual(read(Table([], [Operand("file", ANY)]), []), Refused(0))

    def test_more_than_twelve_words(self):
        table = Table([option("add", "a")], [Operand("file", ANY, 0, None)], None, ["mixed"])
        found = read(table, ["-a", "x"] * 1000)
        self.assertEqual(found, Reading({"add": ((),) * 1000}, {"file": ("x",) * 1000}, ""))
        self.assertEqual(told(table, *["x"] * 13, "-b"), 13)

    def test_words_are_not_changed(self):
        words = ["-a", "-a"]
        read(Table([option("add", "a")]), words)
        self.assertEqual(words, ["-a", "-a"])

    def test_bad_words(self):
        table = Table([])
        for words in [None, "", "--add", 3, {}, {"--add"}, b""]:
            with self.assertRaises(BadWords) as caught:
                read(table, words)
            self.assertIsNone(caught.exception.number)
        for words, number in [([None], 0), (["x", 1, None], 1), (["x"] * 20 + [b"x"], 20), ([["x"]], 0)]:
            with self.assertRaises(BadWords) as caught:
                read(table, words)
            self.assertEqual(caught.exception.number, number)


class Order(unittest.TestCase):
    def test_a_value_that_must_come_goes_first(self):
        table = Table([option("out", "o", ("one", ANY)), option("add", "a")], [], {"go": Table([])}, ["dashed", "alone"])
        for word in ["--", "--add", "-a", "go"]:
            self.assertEqual(told(table, "-o", word), {"out": ((word,),)})
        few = Table([option("out", "o", ("some", ANY, 1, 2)), option("add", "a")], [], None, ["dashed"])
        self.assertEqual(told(few, "-o", "-a", "-a"), {"out": (("-a",),), "add": ((),)})
        self.assertEqual(told(few, "-o", "-a", "x"), {"out": (("-a", "x"),)})

    def test_the_end_of_options_goes_ahead_of_operands(self):
        table = Table([option("out", "o", ("some", ANY, 0, None))], [Operand("file", ANY, 0, None)], None, ["ends"])
        self.assertEqual(told(table, "--", "--", "-o"), {"file": ("--", "-o")})
        self.assertEqual(told(table, "-o", "--", "x"), {"out": ((),), "file": ("x",)})

    def test_long_options_go_ahead_of_further_values_and_operands(self):
        table = Table([option("out", "o", ("some", ANY, 0, None)), option("add", "a")],
                      [Operand("file", ANY, 0, None)], None, ["dashed", "abbreviated"])
        self.assertEqual(told(table, "-o", "--add"), {"out": ((),), "add": ((),)})
        self.assertEqual(told(table, "-o", "--ad"), {"out": ((),), "add": ((),)})
        self.assertEqual(told(table, "--a"), {"add": ((),)})
        self.assertEqual(told(table, "-o", "--xx"), {"out": (("--xx",),)})
        self.assertEqual(told(table, "--xx"), {"file": ("--xx",)})

    def test_a_whole_name_is_itself_alone(self):
        table = Table([option("a", "", NOTHING, 0, 1), option("add")], [], None, ["guessed"])
        self.assertEqual(told(table, "--a", "--ad"), {"a": ((),), "add": ((),)})
        self.assertEqual(told(table, "--a", "--a"), 1)

    def test_letters_go_ahead_of_further_values_and_operands(self):
        table = Table([option("out", "o", ("some", ANY, 0, None)), option("add", "a")],
                      [Operand("file", ANY, 0, None)], None, ["dashed"])
        self.assertEqual(told(table, "-o", "-a"), {"out": ((),), "add": ((),)})
        self.assertEqual(told(table, "-a"), {"add": ((),)})
        self.assertEqual(told(table, "-o", "-x"), {"out": (("-x",),)})
        numbers = Table([option("in", "i", ("some", NUMBER, 0, None))], [Operand("file", NUMBER, 0, None)])
        self.assertEqual(told(numbers, "-i", "-1"), {"in": (("-1",),)})

    def test_further_values_go_ahead_of_operands_and_commands(self):
        table = Table([option("out", "o", ("some", ANY, 0, 2))], [Operand("file", ANY, 0, None)], {"go": Table([])},
                      ["alone"])
        self.assertEqual(told(table, "-o", "x", "go", "y"), {"out": (("x", "go"),), "file": ("y",)})
        chosen = Table([option("out", "o", ("some", CHOSEN, 0, 2))], [Operand("file", ANY, 0, None)])
        self.assertEqual(told(chosen, "-o", "a", "x", "a"), {"out": (("a",),), "file": ("x", "a")})

    def test_the_group_in_turn_goes_ahead_of_later_ones(self):
        table = Table([], [Operand("one", ANY, 0, 2), Operand("two", CHOSEN, 0, 1), Operand("three", ANY, 0, None)])
        self.assertEqual(told(table, "a", "b"), {"one": ("a", "b")})
        self.assertEqual(told(table, "a", "b", "a", "b"), {"one": ("a", "b"), "two": ("a",), "three": ("b",)})
        self.assertEqual(told(table, "x", "y", "z", "a"), {"one": ("x", "y"), "three": ("z", "a")})

    def test_the_next_later_group_first(self):
        table = Table([], [Operand("one", NUMBER, 0, 1), Operand("two", ANY, 0, 1), Operand("three", ANY, 0, 1)])
        self.assertEqual(told(table, "x"), {"two": ("x",)})
        self.assertEqual(told(table, "x", "1"), {"two": ("x",), "three": ("1",)})

    def test_operands_go_ahead_of_commands(self):
        table = Table([], [Operand("file", ANY, 0, 1)], {"go": Table([], [Operand("to", ANY, 0, 1)])}, ["alone"])
        self.assertEqual(told(table, "go"), {"file": ("go",)})
        self.assertEqual(told(table, "go", "go"), {"file": ("go",), "command": "go"})
        self.assertEqual(told(table, "go", "go", "go"), {"file": ("go",), "to": ("go",), "command": "go"})
        later = Table([], [Operand("file", NUMBER, 0, 1), Operand("rest", ANY, 0, 1)], {"go": Table([])}, ["alone"])
        self.assertEqual(told(later, "go"), {"rest": ("go",)})


class SeveralWays(unittest.TestCase):
    def test_guessed_names_take_the_least_one_that_can_come(self):
        table = Table([option("ac"), option("ab", "", NOTHING, 0, 1), option("aa", "", ("one", NUMBER)),
                       option("ad", "", ("maybe", CHOSEN))], [Operand("file", ANY, 0, 1)], None, ["guessed"])
        self.assertEqual(told(table, "--a", "3"), {"aa": (("3",),)})
        self.assertEqual(told(table, "--a", "x"), 1)
        self.assertEqual(told(table, "--a=3"), {"aa": (("3",),)})
        self.assertEqual(told(table, "--a=b"), {"ad": (("b",),)})
        self.assertEqual(told(table, "--a=x"), 0)
        less = Table(table.options[:2], [], None, ["guessed"])
        self.assertEqual(told(less, "--a"), {"ab": ((),)})
        self.assertEqual(told(less, "--a", "--a", "--a"), {"ab": ((),), "ac": ((), ())})

    def test_behind_a_letter_of_maybe_the_longest_value(self):
        table = Table([option("out", "o", ("maybe", ANY)), option("all", "a")])
        self.assertEqual(told(table, "-oa"), {"out": (("a",),)})
        self.assertEqual(told(table, "-aoao"), {"all": ((),), "out": (("ao",),)})
        self.assertEqual(told(table, "-oo"), {"out": (("o",),)})
        self.assertEqual(told(table, "-o"), {"out": ((),)})

    def test_behind_a_letter_of_maybe_letters_if_it_can_be_no_value(self):
        table = Table([option("out", "o", ("maybe", CHOSEN)), option("all", "a"), option("most", "m", ("maybe", ANY))])
        self.assertEqual(told(table, "-oa"), {"out": (("a",),)})
        self.assertEqual(told(table, "-oaa"), {"out": ((),), "all": ((), ())})
        self.assertEqual(told(table, "-oma"), {"out": ((),), "most": (("a",),)})
        self.assertEqual(told(table, "-ooa"), {"out": ((), ("a",))})
        self.assertEqual(told(table, "-oc"), 0)

    def test_a_value_is_taken_whatever_comes_behind(self):
        table = Table([option("out", "o", ("maybe", ANY), 0, 1), option("all", "a", NOTHING, 1, 1)])
        self.assertEqual(told(table, "-oa"), 1)
        self.assertEqual(len(readings(table, ["-oa"])), 1)
        self.assertEqual(told(table, "-oa", "-a"), {"out": (("a",),), "all": ((),)})


class Refusing(unittest.TestCase):
    def test_the_first_word_that_can_be_nothing(self):
        table = Table([option("add", "a", NOTHING, 0, 1), option("out", "o", ("one", NUMBER))], [Operand("file", CHOSEN)])
        self.assertEqual(told(table, "--adds"), 0)
        self.assertEqual(told(table, "-a", "-a", "x"), 1)
        self.assertEqual(told(table, "-a", "-o", "13", "x"), 2)
        self.assertEqual(told(table, "-a", "-o", "12", "x"), 3)
        self.assertEqual(told(table, "-o", "12", "a", "a"), 3)
        self.assertEqual(told(table, "-o", "12", "a", "-a"), 3)
        self.assertEqual(told(table, ""), 0)

    def test_the_number_of_all_words_if_the_list_may_not_end(self):
        table = Table([option("add", "a", NOTHING, 1, 2), option("out", "o", ("some", ANY, 2, None))],
                      [Operand("file", ANY, 0, 1)], {"go": Table([option("deep", "d", NOTHING, 1)], [Operand("to", ANY)])},
                      [], [("needs", "out", "add")])
        self.assertEqual(told(table), 0)
        self.assertEqual(told(table, "-a"), 1)
        self.assertEqual(told(table, "-a", "go"), 2)
        self.assertEqual(told(table, "-a", "x", "go"), 3)
        self.assertEqual(told(table, "-a", "x", "go", "y"), 4)
        self.assertEqual(told(table, "x", "go", "-d", "y"), 4)
        self.assertEqual(told(table, "-a", "x", "go", "-d", "y"),
                         {"add": ((),), "file": ("x",), "deep": ((),), "to": ("y",), "command": "go"})
        self.assertEqual(told(table, "-a", "-o", "x"), 3)

    def test_lists_with_a_reading_that_are_refused(self):
        table = Table([], [Operand("few", ANY, 0, 2), Operand("last", ANY)])
        self.assertEqual([read(table, ["a"]), read(table, ["a", "b"])], [Refused(1), Refused(2)])
        self.assertEqual([len(readings(table, ["a"])), len(readings(table, ["a", "b"]))], [1, 1])
        self.assertEqual(told(table, "a", "b", "c"), {"few": ("a", "b"), "last": ("c",)})
        some = Table([option("add", "a", ("some", ANY, 0, None))], [Operand("file", ANY)])
        self.assertEqual(told(some, "-a", "x", "y"), 3)
        self.assertEqual(len(readings(some, ["-a", "x", "y"])), 1)
        guessed = Table([option("aa", "", ("one", ANY)), option("ab")], [], None, ["guessed"])
        self.assertEqual(told(guessed, "--a"), 1)
        self.assertEqual(len(readings(guessed, ["--a"])), 1)
        command = Table([], [Operand("file", ANY, 0, None)], {"go": Table([])})
        self.assertEqual(told(command, "x", "go"), 2)
        self.assertEqual(len(readings(command, ["x", "go"])), 1)

    def test_conditions(self):
        table = Table([option("add", "a"), option("big", "b")], [], None, [], [("without", "add", "big")])
        self.assertEqual(told(table, "-a", "-a"), {"add": ((), ())})
        self.assertEqual(told(table, "-a", "-b"), 2)


class Samples(unittest.TestCase):
    def test_the_reader_is_the_one_that_the_order_tells(self):
        refused = 0
        for seed, table in tables(0, 400):
            oracle = Oracle(table)
            for words in sample_lists(table, seed, 40):
                found = read(table, words)
                self.assertEqual(found.key() if found else found.number, oracle.read(words), (seed, words))
                every = readings(table, words)
                if found:
                    self.assertIn(found, every, (seed, words))
                refused += not found and len(every) > 0
        self.assertGreater(refused, 100)


if __name__ == "__main__":
    unittest.main()
