"""What words are, and the first wrong one: point [37]."""

import unittest

from switchyard.errors import BadWords, TooLarge
from switchyard.machines import alphabet, measures
from switchyard.marking import first_wrong, kinds_in
from switchyard.readings import readings
from switchyard.tables import Operand, Option, Table
from tests.brute import kinds_told, least_behind, lists_read, row_of, words_of
from tests.samples import sample_lists, small_tables, tables

ANY = ("any",)
NOTHING = ("nothing",)
CHOSEN = ("chosen", "a", "b")
FIGURE = ("number", 0, 9)
ENDS = ("ends", ())


def option(name, letter="", takes=NOTHING, low=0, high=None):
    return Option(name, letter, takes, low, high)


def operand(name, kind=ANY, few=0, many=None):
    return Operand(name, kind, few, many)


def value(name):
    return ("value", (name,))


def brings(*names):
    return ("options", names)


def group(name):
    return ("operand", (name,))


class Kinds(unittest.TestCase):
    def check(self, table, words, *kinds):
        self.assertEqual(kinds_in(table, words), kinds)
        self.assertEqual(kinds_told(table, words), kinds)

    def test_each_kind_of_word(self):
        part = Table([option("b", "b", ("one", ANY))], [operand("g")], None, ("ends",))
        table = Table([option("all", "a"), option("some", "s", ("some", CHOSEN, 1, 2))], [operand("f", FIGURE)], {"go": part}, ("far",))
        self.check(table, ["-s", "a", "b", "--all", "0", "go", "-ab", "x", "--", "-b", "--"], (brings("some"),), (value("some"),),
                   (value("some"),), (brings("all"),), (group("f"),), (("command", ("go",)),), (brings("all", "b"),),
                   (value("b"),), (ENDS,), (group("g"),), (group("g"),))

    def test_no_words(self):
        self.check(Table([]), [])
        self.check(Table([option("a", "a", NOTHING, 1)]), ())

    def test_lists_without_a_reading(self):
        table = Table([option("a", "a", NOTHING, 0, 1)], [operand("f", CHOSEN, 1, 1)])
        for words in [["x"], ["-a"], ["-a", "-a", "a"], ["a", "a"], ["-a", "a", "-a"], ["--"]]:
            self.check(table, words, *[()] * len(words))

    def test_words_that_are_several_things(self):
        table = Table([option("a", "a", ("some", ANY, 0, None))], [operand("f"), operand("g", CHOSEN)], {"a": Table([])}, ("mixed", "dashed", "alone"))
        self.check(table, ["-a", "a"], (group("f"), brings("a")), (("command", ("a",)), group("f"), group("g"), value("a")))
        self.check(table, ["-a", "x"], (group("f"), brings("a")), (group("f"), value("a")))
        told = kinds_in(table, ["-a", "a"])[1]
        self.assertEqual(told, tuple(sorted(told)))
        ends = Table([option("a", "a", ("one", ANY))], [operand("f")], None, ("ends", "dashed"))
        # behind -a as an operand options are over, and so -- is an operand, too
        self.check(ends, ["-a", "--a", "--", "--"], (group("f"), brings("a")), (group("f"), value("a")), (ENDS, group("f")),
                   (group("f"),))

    def test_ways_that_no_end_follows_do_not_count(self):
        table = Table([option("a", "a", ("some", CHOSEN, 0, 1))], [operand("f", CHOSEN, 1, 1)])
        self.check(table, ["-a", "a"], (brings("a"),), (group("f"),))
        self.check(table, ["-a", "a", "b"], (brings("a"),), (value("a"),), (group("f"),))
        self.check(table, ["-a", "x"], (), ())

    def test_ways_that_tell_the_same_reading_count_all(self):
        table = Table([option("a", "a", ("some", ANY, 0, None)), option("b", "b", ("some", ANY, 0, None))], [operand("f")], None, ("mixed",))
        self.check(table, ["x", "-a", "x", "-b", "x"], (group("f"),), (brings("a"),), (group("f"), value("a")), (brings("b"),),
                   (group("f"), value("b")))

    def test_letters_together_with_values(self):
        table = Table([option("a", "a", ("maybe", ANY)), option("b", "b", ("maybe", CHOSEN)), option("c", "c")])
        self.check(table, ["-a"], (brings("a"),))
        self.check(table, ["-ab"], (brings("a"), brings("a", "b")))
        self.check(table, ["-cab"], (brings("c", "a"), brings("c", "a", "b")))
        self.check(table, ["-bab"], (brings("b", "a"), brings("b", "a", "b")))
        self.check(table, ["-bb"], (brings("b"), brings("b", "b")))
        self.check(table, ["-cc", "-bc"], (brings("c", "c"),), (brings("b", "c"),))
        self.check(table, ["-abx"], (brings("a"),))

    def test_long_names(self):
        options = [option("ab", "", ("maybe", CHOSEN)), option("ac", "", ("one", CHOSEN))]
        self.check(Table(options, [], None, ("guessed",)), ["--a=a", "--ab"], (brings("ab"), brings("ac")), (brings("ab"),))
        self.check(Table(options, [operand("f")], None, ("guessed",)), ["--a", "a"], (brings("ab"), brings("ac")), (group("f"), value("ac")))
        self.check(Table(options, [], None, ("abbreviated",)), ["--ab=b", "--ac", "a"], (brings("ab"),), (brings("ac"),), (value("ac"),))

    def test_lists_of_many_words(self):
        table = Table([], [operand("f")])
        self.assertEqual(kinds_in(table, ["x"] * 30), ((group("f"),),) * 30)

    def test_samples(self):
        several = 0
        for seed, table in [*tables(0, 120), *small_tables(0, 60)]:
            if measures(table)[0] <= 120:
                for words in sample_lists(table, seed, 20):
                    told = kinds_in(table, words)
                    self.assertEqual(told, kinds_told(table, words), (seed, words))
                    self.assertEqual(() in told or words == [], readings(table, words) == [] or words == [], (seed, words))
                    several += any(len(kinds) > 1 for kinds in told)
        self.assertGreater(several, 20)


class Wrong(unittest.TestCase):
    def check(self, table, words, number):
        self.assertEqual(first_wrong(table, words), number)

    def test_the_first_wrong_word_in_each_place(self):
        table = Table([option("a", "a", NOTHING, 0, 2), option("b", "b", ("one", FIGURE))], [operand("f", CHOSEN, 0, 2)])
        good = ["-a", "-b", "0", "a", "b"]
        self.check(table, good, None)
        for at in range(5):
            for wrong in ["x", "-x", "--x", "--"]:
                self.check(table, [*good[:at], wrong, *good[at + 1:]], at)
                self.check(table, [*good[:at], wrong], at)
            self.check(table, good[:at], None)
        self.check(table, [*good, "a"], 5)
        self.check(table, ["-a", "-a", "-a"], 2)
        self.check(table, ["a", "-a"], 1)

    def test_words_behind_which_a_list_must_go_on(self):
        table = Table([option("a", "a", ("some", CHOSEN, 2, 2), 1, 1)], [operand("f", FIGURE, 1, 1)])
        for many in range(5):
            self.check(table, ["-a", "a", "b", "0"][:many], None)
        self.check(table, ["0"], 0)
        self.check(table, ["-a", "0"], 1)
        self.check(table, ["-a", "a", "a", "a"], 3)

    def test_ways_that_no_end_can_follow(self):
        options = [option("a", "a"), option("b", "b", NOTHING, 0, 1), option("c", "c", NOTHING, 1)]
        table = Table(options, [], None, (), [("without", "a", "b"), ("needs", "a", "b")])
        self.check(table, ["-c", "-a"], 1)
        self.check(table, ["-ca"], 0)
        self.check(table, ["-b", "-c"], None)
        part = Table([option("x", "x", NOTHING, 1), option("y", "y", NOTHING, 1)], [], None, (), [("without", "x", "y")])
        self.check(Table([option("a", "a")], [], {"go": part, "up": Table([])}), ["-a", "go"], 1)
        self.check(Table([option("a", "a")], [], {"go": part, "up": Table([])}), ["-a", "up", "-a"], 2)
        self.check(Table([option("a", "a")], [], {"go": part, "up": Table([])}, ("far",)), ["-a", "up", "-a"], None)

    def test_negative_numbers_and_words_that_end_options(self):
        table = Table([option("a", "a", ("one", ("number", -9, -1)), 1)], [operand("f", ("number", -3, -2), 1, 1)], None, ("ends",))
        self.check(table, ["-a", "-1", "-2"], None)
        self.check(table, ["-a", "-1", "--", "-2"], None)
        self.check(table, ["--"], 0)
        self.check(table, ["-a-1", "-4"], 1)

    def test_no_list_at_all(self):
        none = Table([option("a", "a", NOTHING, 1), option("b", "b", NOTHING, 1)], [operand("f")], None, (), [("without", "a", "b")])
        for words in [[], ["x"], ["-a"], ["-a", "-b"], ["-q", "x"]]:
            self.check(none, words, 0)
        part = Table([option("x", "x", NOTHING, 1), option("y", "y", NOTHING, 1)], [], None, (), [("without", "x", "y")])
        self.check(Table([], [], {"go": part}), [], 0)
        self.check(Table([], [], {"go": part}), ["go", "-x"], 0)
        self.check(Table([], [], {"go": part}, ("alone",)), ["go"], 0)
        self.check(Table([], [], {"go": part}, ("alone",)), [], None)

    def test_long_lists(self):
        table = Table([option("a", "a", ("maybe", ANY))], [operand("f", CHOSEN)], None, ("mixed",))
        self.check(table, ["-a", "a"] * 200, None)
        self.check(table, [*["-a", "a"] * 200, "-b", "a"], 400)

    def test_samples(self):
        """A list is begun if, and only if, it has a reading, or some list over the alphabet goes on behind it."""
        found = {}
        for seed, table in small_tables(0, 80):
            begun = {row[:at] for row in lists_read(table, alphabet([table], ""), 4) for at in range(len(row) + 1)}
            for words in sample_lists(table, seed, 12):
                number = first_wrong(table, words)
                found[number] = found.get(number, 0) + 1
                whole = len(words) if number is None else number
                for at in range(len(words) + 1):
                    row = row_of(words[:at])
                    signs = alphabet([table], "".join(words[:at]))
                    if row in begun or least_behind(table, signs, row, 3) or readings(table, words[:at]):
                        self.assertLessEqual(at, whole, (seed, words))
            for row in list(begun)[:200]:
                if row and row[-1] == "":
                    self.assertIsNone(first_wrong(table, words_of(row)), (seed, row))
        self.assertGreater(min(found.get(number, 0) for number in [None, 0, 1, 2]), 10)

    def test_wrong_words_of_samples(self):
        """Behind the first wrong word no list has a reading; the words ahead of it may go on far."""
        for seed, table in small_tables(200, 260):
            for words in sample_lists(table, seed, 10):
                number = first_wrong(table, words)
                if number is not None and words:
                    self.assertEqual(readings(table, words), [], (seed, words))
                    signs = alphabet([table], "".join(words))
                    self.assertEqual(least_behind(table, signs, row_of(words[:number + 1]), 3), {}, (seed, words))


class Refused(unittest.TestCase):
    def test_what_is_no_list(self):
        large = Table([option("a", "", ("some", ANY, 9, 9)), option("b", "", NOTHING, 0, 3)])
        for table in [Table([option("a", "a")]), large]:
            for judge in [kinds_in, first_wrong]:
                for words, number in [(None, None), ("-a", None), (7, None), ({}, None), ([0], 0), (["-a", None], 1), (("x", "y", b"z"), 2)]:
                    with self.assertRaises(BadWords) as caught:
                        judge(table, words)
                    self.assertEqual(caught.exception.number, number)

    def test_tables_above_the_measures(self):
        large = Table([option("a", "", ("some", ANY, 9, 9)), option("b", "", NOTHING, 0, 3)])
        self.assertEqual(measures(large)[0], 132)
        for judge in [kinds_in, first_wrong]:
            for words in [[], ["x"]]:
                with self.assertRaises(TooLarge) as caught:
                    judge(large, words)
                self.assertEqual(caught.exception.number, 132)


if __name__ == "__main__":
    unittest.main()
