"""The first lists: point [40]."""

import unittest

from switchyard.counting import count_lists
from switchyard.errors import BadPart, TooLarge
from switchyard.firsts import first_lists
from switchyard.machines import alphabet, measures
from switchyard.tables import Operand, Option, Table
from tests.brute import length_of, lists_read, words_of
from tests.samples import small_tables

ANY = ("any",)
NOTHING = ("nothing",)
CHOSEN = ("chosen", "a", "b")


def option(name, letter="", takes=NOTHING, low=0, high=None):
    return Option(name, letter, takes, low, high)


def operand(name, kind=ANY, few=0, many=None):
    return Operand(name, kind, few, many)


class Firsts(unittest.TestCase):
    def check(self, table, *lists):
        for many in range(len(lists) + 1):
            self.assertEqual(first_lists(table, many), lists[:many])

    def test_order(self):
        self.check(Table([], [operand("f", CHOSEN)]), (), ("a",), ("b",), ("a", "a"), ("a", "b"), ("b", "a"), ("b", "b"), ("a", "a", "a"))
        self.check(Table([], [operand("f")]), (), ("",), ("", ""), ("-",), ("=",), ("A",), ("B",), ("", "", ""), ("", "-"), ("", "="))
        table = Table([option("b", "a"), option("a", "b")])
        self.check(table, (), ("-a",), ("-b",), ("--a",), ("--b",), ("-aa",), ("-ab",), ("-ba",), ("-bb",))

    def test_fewer_lists_than_asked(self):
        self.assertEqual(first_lists(Table([]), 40), ((),))
        table = Table([option("ab", "a", NOTHING, 0, 1)])
        self.assertEqual(first_lists(table, 40), ((), ("-a",), ("--ab",)))
        self.assertEqual(first_lists(table, 2), ((), ("-a",)))
        long = Table([], [operand("f", ("chosen", "abcdefgh", "b"), 2, 2)])
        self.assertEqual(first_lists(long, 40), (("b", "b"), ("abcdefgh", "b"), ("b", "abcdefgh"), ("abcdefgh", "abcdefgh")))
        none = Table([option("a", "a", NOTHING, 1), option("b", "b", NOTHING, 1)], [operand("f")], None, (), [("without", "a", "b")])
        self.assertEqual((first_lists(none, 0), first_lists(none, 40)), ((), ()))

    def test_none(self):
        self.assertEqual(first_lists(Table([]), 0), ())
        self.assertEqual(first_lists(Table([], [operand("f")]), 0), ())

    def test_lists_with_several_readings_stand_once(self):
        table = Table([], [operand("f", CHOSEN), operand("g", CHOSEN)])
        told = first_lists(table, 40)
        self.assertEqual((len(told), len(set(told))), (40, 40))

    def test_lengths_with_gaps(self):
        table = Table([option("abcdefgh", "", ("some", ("chosen", "abc"), 3, 3))])
        one = ("--abcdefgh", "abc", "abc", "abc")
        self.check(table, (), one, one * 2, one * 3)
        self.assertEqual(first_lists(table, 40)[39], one * 39)

    def test_least_lists_that_are_long(self):
        table = Table([], [operand("f", ANY, 9, 9), operand("g", ("chosen", "abcdefgh"), 9, 9), operand("h", CHOSEN, 9, 9)])
        told = first_lists(table, 3)
        front = ("",) * 9 + ("abcdefgh",) * 9
        self.assertEqual(told, ((*front, *["a"] * 9), (*front, *["a"] * 8, "b"), (*front, *["a"] * 7, "b", "a")))

    def test_commands(self):
        table = Table([option("x", "x", NOTHING, 0, 1)], [], {"go": Table([]), "b": Table([])})
        self.check(table, ("b",), ("go",), ("-x", "b"), ("--x", "b"), ("-x", "go"), ("--x", "go"))

    def test_samples(self):
        for seed, table in small_tables(0, 100):
            rows = lists_read(table, alphabet([table], ""), 5)
            told = first_lists(table, 40)
            self.assertEqual(told[:len(rows)], tuple(words_of(row) for row in rows[:40]), seed)
            for words in told[len(rows):]:
                self.assertGreater(length_of(words), 5)
            lengths = [length_of(words) for words in told]
            self.assertEqual(lengths, sorted(lengths))
            counts = count_lists(table, 12)
            for length in range(13):
                if len(told) < 40 or length < lengths[-1]:
                    self.assertEqual(lengths.count(length), counts[length], seed)


class Refused(unittest.TestCase):
    def test_what_is_no_such_number(self):
        for many in [-1, 41, True, False, None, "3", 1000]:
            with self.assertRaises(BadPart) as caught:
                first_lists(Table([]), many)
            self.assertEqual(caught.exception.part, "many")

    def test_tables_above_the_measures(self):
        large = Table([option("a", "", ("some", ANY, 9, 9)), option("b", "", NOTHING, 0, 3)])
        self.assertEqual(measures(large)[0], 132)
        for many in [0, 40, 41, None]:
            with self.assertRaises(TooLarge) as caught:
                first_lists(large, many)
            self.assertEqual(caught.exception.number, 132)


if __name__ == "__main__":
    unittest.main()
