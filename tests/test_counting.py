"""How many lists there are: point [35]."""

import unittest

from switchyard.counting import count_lists
from switchyard.errors import BadPart, TooLarge
from switchyard.machines import alphabet, measures
from switchyard.tables import Operand, Option, Table
from tests.brute import lists_read
from tests.samples import small_tables, tables

ANY = ("any",)
NOTHING = ("nothing",)
CHOSEN = ("chosen", "a", "b")


def option(name, letter="", takes=NOTHING, low=0, high=None):
    return Option(name, letter, takes, low, high)


def operand(name, kind=ANY, few=0, many=None):
    return Operand(name, kind, few, many)


def counted(table, length):
    rows = lists_read(table, alphabet([table], ""), length)
    return tuple(sum(len(row) == many for row in rows) for many in range(length + 1))


class Counts(unittest.TestCase):
    def check(self, table, *counts):
        self.assertEqual(count_lists(table, len(counts) - 1), counts)
        self.assertEqual(counted(table, len(counts) - 1), counts)
        for length in range(len(counts)):
            self.assertEqual(count_lists(table, length), counts[:length + 1])

    def test_counts(self):
        self.check(Table([]), 1, 0, 0, 0)
        self.check(Table([], [operand("f", CHOSEN, 1, 1)]), 0, 0, 2, 0, 0)
        self.check(Table([], [operand("f", CHOSEN)]), 1, 0, 2, 0, 4, 0, 8)
        self.check(Table([option("a", "a")]), 1, 0, 0, 1, 2, 1, 2, 5)
        self.check(Table([option("ab", "", NOTHING, 0, 1)], [], None, ("abbreviated",)), 1, 0, 0, 0, 1, 1, 0)

    def test_foreign_signs_count_each(self):
        # a word of any signs but a dash at the beginning of more: -, =, A and B, and END behind each
        self.check(Table([], [operand("f", ANY, 1, 1)]), 0, 1, 4, 12, 48)
        self.check(Table([option("c", "c", ("one", ANY), 1, 1)]), 0, 0, 0, 0, 6, 32, 155)

    def test_lists_with_several_readings_count_once(self):
        self.check(Table([], [operand("f", CHOSEN), operand("g", CHOSEN)]), 1, 0, 2, 0, 4, 0, 8)
        some = Table([option("a", "a", ("some", ANY, 0, None))], [operand("f", CHOSEN)], None, ("mixed",))
        self.assertEqual(count_lists(some, 6), counted(some, 6))
        guessed = Table([option("ab"), option("ac")], [], None, ("guessed",))
        self.check(guessed, 1, 0, 0, 0, 1, 2, 0, 0)

    def test_tables_with_no_list(self):
        none = Table([option("a", "a", NOTHING, 1), option("b", "b", NOTHING, 1)], [operand("f")], None, (), [("without", "a", "b")])
        for length in range(13):
            self.assertEqual(count_lists(none, length), (0,) * (length + 1))
        long = Table([], [operand("f", ("chosen", "abcdefgh"), 2, 2)])
        self.assertEqual(count_lists(long, 12), (0,) * 13)

    def test_long_lists(self):
        table = Table([], [operand("f", CHOSEN)])
        self.assertEqual(count_lists(table, 12), (1, 0, 2, 0, 4, 0, 8, 0, 16, 0, 32, 0, 64))
        # with mixed all words are any ones of four signs but dash words
        words = [1, 4] + [3 * 4 ** many for many in range(1, 12)]
        lists = [1]
        for length in range(1, 13):
            lists.append(sum(words[many] * lists[length - 1 - many] for many in range(length)))
        self.assertEqual(count_lists(Table([], [operand("f")], None, ("mixed",)), 12), tuple(lists))

    def test_samples(self):
        for seed, table in small_tables(0, 100):
            self.assertEqual(count_lists(table, 5), counted(table, 5), seed)
        for seed, table in tables(0, 30):
            if measures(table)[0] <= 120:
                self.assertEqual(count_lists(table, 4), counted(table, 4), seed)


class Refused(unittest.TestCase):
    def test_what_is_no_length(self):
        for length in [-1, 13, True, False, None, "3", (3,), 100]:
            with self.assertRaises(BadPart) as caught:
                count_lists(Table([]), length)
            self.assertEqual(caught.exception.part, "length")

    def test_tables_above_the_measures(self):
        large = Table([option("a", "", ("some", ANY, 9, 9)), option("b", "", NOTHING, 0, 3)])
        self.assertEqual(measures(large)[0], 132)
        for length in [0, 12, 13, None]:
            with self.assertRaises(TooLarge) as caught:
                count_lists(large, length)
            self.assertEqual(caught.exception.number, 132)


if __name__ == "__main__":
    unittest.main()
