"""Without going back: point [29]."""

import unittest

from switchyard.errors import TooLarge
from switchyard.greed import Refusals, is_read_greedily, judge_greedy
from switchyard.machines import alphabet, measures
from switchyard.nets import Net, least_row, told_words
from switchyard.reader import read
from switchyard.readings import readings
from switchyard.tables import Operand, Option, Table
from tests.brute import least_refused, length_of
from tests.samples import sample_lists, tables

ANY = ("any",)
NOTHING = ("nothing",)
CHOSEN = ("chosen", "a", "b")
FIGURE = ("number", 0, 9)


def option(name, letter="", takes=NOTHING, low=0, high=None):
    return Option(name, letter, takes, low, high)


def operand(name, kind=ANY, few=0, many=None):
    return Operand(name, kind, few, many)


class Greedy(unittest.TestCase):
    def check_greedy(self, table, most):
        self.assertIsNone(judge_greedy(table))
        self.assertIsNone(least_refused(table, most))

    def check_refused(self, table, *words):
        self.assertEqual(judge_greedy(table), words)
        self.assertEqual(least_refused(table, length_of(words)), words)
        self.assertNotEqual(readings(table, words), [])
        self.assertIs(is_read_greedily(table, words), False)
        self.assertEqual(read(table, words).number <= len(words), True)

    def test_tables_that_are_read_greedily(self):
        self.check_greedy(Table([]), 5)
        self.check_greedy(Table([option("a", "a"), option("b", "b", ("one", ANY))], [operand("f")]), 4)
        self.check_greedy(Table([], [operand("f", ANY, 1, 2), operand("g")]), 5)
        self.check_greedy(Table([option("a", "a", ("some", ANY, 0, 2))], [operand("f")], None, ("dashed",)), 4)
        self.check_greedy(Table([option("ab"), option("ac", "", ("maybe", CHOSEN))], [], None, ("guessed", "ends")), 5)
        self.check_greedy(Table([option("ab"), option("ac", "", ("one", CHOSEN))], [], None, ("abbreviated",)), 5)
        self.check_greedy(Table([option("a", "a", ("maybe", ANY)), option("b", "b")], [], None, ("dashed",)), 4)
        self.check_greedy(Table([], [operand("f", CHOSEN)], {"go": Table([option("b", "b")])}), 5)

    def test_tables_without_any_list(self):
        table = Table([option("a", "a", NOTHING, 1), option("b", "b", NOTHING, 1)], [], None, (), [("without", "a", "b")])
        self.check_greedy(table, 5)

    def test_operands_that_lack(self):
        self.check_refused(Table([], [operand("few", ANY, 0, 2), operand("last", ANY, 1, 1)]), "")
        self.check_refused(Table([], [operand("f", CHOSEN), operand("g", ("chosen", "b"), 1, 1)]), "b")
        self.check_refused(Table([], [operand("f", ANY, 1, 3), operand("g", ANY, 1, 1)]), "", "")

    def test_further_values(self):
        self.check_refused(Table([option("a", "a", ("some", ANY, 0, None))], [operand("f", ANY, 1, 1)]), "-a", "")
        self.check_refused(Table([option("a", "a", ("some", CHOSEN, 0, 1), 0, 1)], [operand("f", CHOSEN, 1, 1)]), "-a", "a")
        self.check_refused(Table([option("a", "a", ("some", ANY, 0, None))], [], {"go": Table([])}), "-a", "go")

    def test_letters(self):
        table = Table([option("a", "a", ("maybe", ("chosen", "b")), 0, 1), option("b", "b", NOTHING, 1, 1)])
        self.check_refused(table, "-ab")
        table = Table([option("b", "a", ("maybe", ANY), 0, 1), option("a", "b", NOTHING, 1, 1)])
        self.check_refused(table, "-ab")

    def test_dash_words(self):
        table = Table([option("a", "1"[:0]), option("b", "b")], [operand("f", ("number", -1, 0), 1, 1)])
        self.check_greedy(table, 5)
        table = Table([option("a", "a", NOTHING, 0, 1)], [operand("f", ANY, 1, 1)], None, ("dashed",))
        self.check_refused(table, "-a")
        table = Table([], [operand("f", ANY, 2, 2)], None, ("dashed", "ends"))
        self.check_greedy(table, 5)

    def test_beginnings(self):
        table = Table([option("ab", "", NOTHING, 0, 1), option("ac", "", NOTHING, 1, 1)], [], None, ("guessed",))
        self.check_refused(table, "--a")
        table = Table([option("a", "", NOTHING, 0, 1), option("ac", "", NOTHING, 1, 1)], [], None, ("guessed",))
        self.check_greedy(table, 7)
        table = Table([option("ac", "", ("one", CHOSEN)), option("ab", "", ("one", FIGURE))], [], None, ("guessed",))
        self.check_refused(table, "--a", "a")

    def test_conditions(self):
        options = [option("ab", "", NOTHING, 0, 1), option("ac", "", NOTHING, 0, 1)]
        self.check_refused(Table(options, [], None, ("guessed",), [("needs", "ab", "ac")]), "--a")
        self.check_refused(Table(options, [], None, ("guessed",), [("needs", "ac", "ab")]), "--a", "--ab")
        self.check_greedy(Table([option("ab"), option("ac")], [], None, ("guessed",), [("needs", "ac", "ab")]), 6)

    def test_commands(self):
        self.check_refused(Table([], [operand("f", ("chosen", "g", "go"))], {"go": Table([])}), "go")
        self.check_refused(Table([], [operand("f", CHOSEN, 1, 2), operand("g", ("chosen", "a"), 0, 1)], {"a": Table([])}), "a", "a")
        part = Table([], [operand("f", ANY, 0, 1), operand("g", ANY, 1, 1)])
        self.check_refused(Table([option("x", "x")], [], {"go": part}), "go", "")

    def test_least_lists_that_are_long(self):
        table = Table([], [operand("f", ANY, 9, 9), operand("g", ANY, 0, 9), operand("h", ANY, 1, 1)])
        self.assertEqual(judge_greedy(table), ("",) * 10)
        table = Table([option("a", "a", NOTHING, 3, 3), option("b", "b", ("some", ANY, 2, None))], [operand("f", CHOSEN, 1, 1)])
        self.assertEqual(judge_greedy(table), ("-aaab", "", "", "a"))

    def test_samples(self):
        greedy, refused, late = 0, 0, 0
        for seed, table in tables(0, 60):
            if measures(table)[0] > 120:
                continue
            told = judge_greedy(table)
            if told is None:
                greedy += 1
                self.assertIsNone(least_refused(table, 3), seed)
                for words in sample_lists(table, seed, 20):
                    self.assertEqual(is_read_greedily(table, words), readings(table, words) != [], (seed, words))
            elif length_of(told) <= 4:
                refused += 1
                self.assertEqual(told, least_refused(table, 4), seed)
            else:
                late += 1
                self.assertIsNone(least_refused(table, 3), seed)
        self.assertGreater(min(greedy, refused, late), 2)


class AllStates(Refusals):
    """Refusals that leave out no state."""

    def __init__(self, net):
        super().__init__(net)
        self.seen = set()

    def is_new(self, state):
        is_new = state not in self.seen
        self.seen.add(state)
        return is_new


class LeftOut(unittest.TestCase):
    def test_what_is_left_out_is_not_needed(self):
        found = 0
        for seed, table in tables(400, 700):
            if measures(table)[0] <= 120:
                net = Net(table, alphabet([table], ""), True)
                row = least_row(AllStates(net), None)
                words = None if row is None else told_words(net.signs, row)
                self.assertEqual(judge_greedy(table), words, seed)
                found += words is not None and length_of(words) > 4
        self.assertGreater(found, 20)

    def test_counts_that_matter(self):
        guessed = ("guessed",)
        low = [option("ab", "", NOTHING, 0, 2), option("ac", "", NOTHING, 2, 2)]
        self.check(Table(low, [], None, guessed), "--a", "--a")
        high = [option("ab", "", NOTHING, 2, 2), option("ac", "", NOTHING, 0, 1)]
        self.check(Table(high, [], None, guessed), "--a", "--a", "--ab")
        some = [option("ab"), option("ac"), option("b", "b")]
        self.check(Table(some, [], None, guessed, [("some", ("ac",))]), "--a")
        self.check(Table(some, [], None, guessed, [("without", "ab", "b"), ("some", ("b",))]), "--a", "-b")

    def check(self, table, *words):
        self.assertEqual(judge_greedy(table), words)
        if length_of(words) < 9:
            self.assertEqual(least_refused(table, length_of(words)), words)


class ReadGreedily(unittest.TestCase):
    def test_lists(self):
        table = Table([], [operand("few", ANY, 0, 2), operand("last", ANY, 1, 1)])
        for words, holds in [(["a", "b", "c"], True), (("a", "b"), False), ([], False), (["a"] * 4, False)]:
            self.assertIs(is_read_greedily(table, words), holds)
        self.assertIs(is_read_greedily(Table([]), []), True)

    def test_samples(self):
        for seed, table in tables(200, 260):
            if measures(table)[0] <= 120:
                for words in sample_lists(table, seed, 20):
                    self.assertIs(is_read_greedily(table, words), bool(read(table, words)), (seed, words))


class Sizes(unittest.TestCase):
    def test_tables_above_the_measures(self):
        options = [option("a", "", ("some", ANY, 9, 9)), option("b", "", NOTHING, 0, 3)]
        numbers = ("number", -99, 99)
        many = [operand(name, numbers, 1, 1) for name in "abc"]
        for table, number in [(Table(options), 132), (Table([], many), 1442)]:
            self.assertIn(number, measures(table))
            with self.assertRaises(TooLarge) as caught:
                judge_greedy(table)
            self.assertEqual(caught.exception.number, number)
            with self.assertRaises(TooLarge) as caught:
                is_read_greedily(table, [])
            self.assertEqual(caught.exception.number, number)

    def test_tables_at_the_measures(self):
        table = Table([option("a", "a", NOTHING, 3, 3), option("b", "b", NOTHING, 9, 9)])
        self.assertEqual(measures(table)[0], 120)
        self.assertIsNone(judge_greedy(table))
        self.assertIs(is_read_greedily(table, ["-aaa", "-bbbbbbbbb"]), True)


if __name__ == "__main__":
    unittest.main()
