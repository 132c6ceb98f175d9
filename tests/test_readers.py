"""Two readers: point [36]."""

import unittest

from switchyard.clear import judge_clear
from switchyard.errors import TooLarge
from switchyard.greed import judge_greedy
from switchyard.judgeerrors import NotClear
from switchyard.machines import measures
from switchyard.parting import Parted, judge_alike, judge_extends
from switchyard.reader import Refused, read
from switchyard.readers import ReadersParted, judge_readers, judge_readers_alike
from switchyard.readings import Reading, readings
from switchyard.tables import Operand, Option, Table
from tests.brute import least_readers_parted, length_of
from tests.samples import small_tables, tables

ANY = ("any",)
NOTHING = ("nothing",)
CHOSEN = ("chosen", "a", "b")
FIGURE = ("number", 0, 9)


def option(name, letter="", takes=NOTHING, low=0, high=None):
    return Option(name, letter, takes, low, high)


def operand(name, kind=ANY, few=0, many=None):
    return Operand(name, kind, few, many)


class Judged(unittest.TestCase):
    def check_none(self, judge, one, other, most=4):
        self.assertIsNone(judge(one, other))
        self.assertIsNone(least_readers_parted(one, other, most, judge == judge_readers_alike))

    def check_parted(self, judge, one, other, *words):
        told = judge(one, other)
        self.assertIsInstance(told, ReadersParted)
        self.assertEqual(told.words, words)
        found = least_readers_parted(one, other, length_of(words), judge == judge_readers_alike)
        self.assertEqual((told.words, *[one and one.key() for one in [told.one, told.other]]), found)
        self.assertIs(told.shows(one, other), True)
        self.assertIs(told.shows(other, one), told.one == told.other)

    def check(self, smaller, larger, *words):
        """That the larger table's reader reads all that the smaller one's reads, and this list, too."""
        self.check_none(judge_readers, smaller, larger)
        self.check_parted(judge_readers, larger, smaller, *words)
        self.check_parted(judge_readers_alike, smaller, larger, *words)
        self.check_parted(judge_readers_alike, larger, smaller, *words)

    def check_both(self, one, other, words, more):
        self.check_parted(judge_readers, one, other, *words)
        self.check_parted(judge_readers, other, one, *more)
        least = min([words, more], key=lambda row: (length_of(row), [sign for word in row for sign in [*word, ""]]))
        self.check_parted(judge_readers_alike, one, other, *least)
        self.check_parted(judge_readers_alike, other, one, *least)


class Readers(Judged):
    def test_a_table_and_itself(self):
        part = Table([option("b", "b")], [operand("f", FIGURE, 0, 1)])
        for table in [Table([]), Table([option("a", "a", ("maybe", ANY), 0, 1), option("b", "b")], [operand("f")]),
                      Table([option("a", "a", ("some", ANY, 0, None))], [operand("g")], {"go": part}, ("far", "dashed")),
                      Table([option("a", "", NOTHING, 1)]), Table([], [operand("f", ANY, 0, 2), operand("g", ANY, 1, 1)]),
                      Table([option("ab"), option("ac")], [], None, ("guessed",))]:
            self.check_none(judge_readers, table, table)
            self.check_none(judge_readers_alike, table, table)

    def test_options(self):
        one, two = option("add", "a"), option("b", "b", ("one", ANY))
        self.check(Table([one]), Table([one, two]), "-b", "")
        self.check(Table([option("add")]), Table([one]), "-a")
        self.check_both(Table([one]), Table([option("ad", "a")]), ("-a",), ("-a",))
        self.check(Table([option("a", "a", NOTHING, 0, 1)]), Table([option("a", "a", NOTHING, 0, 2)]), "-aa")
        self.check(Table([option("a", "a", NOTHING, 1)]), Table([option("a", "a")]), *())
        self.check_none(judge_readers_alike, Table([one, two]), Table([two, one]))

    def test_what_one_reader_refuses(self):
        few = [operand("few", ANY, 0, 2), operand("last", ANY, 1, 1)]
        # the first one reads just the lists of three words, as the reader never goes back
        self.check_both(Table([], few), Table([], few[1:]), ("", "", ""), ("",))
        some = option("a", "a", ("some", ANY, 0, None))
        self.check(Table([some], [operand("f", ANY, 1, 1)]), Table([some], [operand("f", ANY, 0, 1)]), *())
        one = Table([option("a", "a", ("maybe", ("chosen", "b")), 0, 1), option("b", "b", NOTHING, 1, 1)])
        self.check_parted(judge_readers, one, Table([option("b", "b", NOTHING, 1, 1)]), "-ba")
        self.check(Table([option("b", "b", NOTHING, 1, 1)]), one, "-ba")

    def test_what_both_read_otherwise(self):
        file, rest = operand("file", ANY, 1, 1), operand("rest")
        old = Table([option("all", "a")], [file, rest])
        new = Table([option("all", "a", ("maybe", ANY))], [file, rest])
        self.check_parted(judge_readers, old, new, "-aa", "")
        told = judge_readers(old, new)
        self.assertEqual((told.one.options, told.other.options), ({"all": ((), ())}, {"all": (("a",),)}))
        one = Table([option("a", "a", ("some", ANY, 0, 1), 0, 1)], [operand("f", ANY, 0, 1)])
        other = Table([option("a", "a", NOTHING, 0, 1)], [operand("f", ANY, 0, 1)])
        self.check_both(one, other, ("-a", ""), ("-a", ""))
        # guessed readers take the least name that a beginning means
        self.check_none(judge_readers, Table([option("verify")], [], None, ["abbreviated"]),
                        Table([option("verify"), option("version")], [], None, ["guessed"]))

    def test_beginnings_that_mean_several(self):
        guessed = [option("ab"), option("ac")]
        self.check(Table([option("ab")], [], None, ("guessed",)), Table(guessed, [], None, ("guessed",)), "--ac")
        self.check_both(Table([option("ac")], [], None, ("guessed",)), Table(guessed, [], None, ("guessed",)), ("--a",), ("--a",))
        self.check(Table(guessed, [], None, ("abbreviated",)), Table(guessed, [], None, ("guessed",)), "--a")
        values = [option("ac", "", ("one", CHOSEN)), option("ab", "", ("one", FIGURE))]
        told = judge_readers(Table(values, [], None, ("guessed",)), Table(values, [], None, ("abbreviated",)))
        self.assertEqual((told.words, told.one.options), (("--a", "0"), {"ab": (("0",),), "ac": ()}))
        self.check_parted(judge_readers, Table(values, [], None, ("guessed",)), Table(values, [], None, ("abbreviated",)), "--a", "0")

    def test_letters_that_are_values(self):
        one = Table([option("a", "a", ("maybe", CHOSEN)), option("b", "b")])
        other = Table([option("a", "a"), option("b", "b")])
        self.check_both(one, other, ("-aa",), ("-aa",))
        self.check(Table([option("a", "a"), option("b", "b")]), Table([option("a", "a", ("maybe", FIGURE)), option("b", "b")]), "-a0")
        long = ("maybe", ("chosen", "abc", "bcd"))
        self.check_both(Table([option("a", "a", long), option("b", "b"), option("c", "c")]),
                        Table([option("a", "a"), option("b", "b"), option("c", "c")]), ("-aabc",), ("-aabc",))

    def test_operands(self):
        one, two = operand("f", FIGURE), operand("g", CHOSEN)
        self.check(Table([], [one]), Table([], [one, two]), "a")
        self.check_both(Table([], [one, two]), Table([], [two, one]), ("0", "a"), ("a", "0"))
        self.check(Table([], [operand("f", ANY, 1, 2)]), Table([], [operand("f", ANY, 0, 2)]), *())
        any_two = Table([], [operand("f", ANY, 0, 1), operand("g", ANY, 0, 1)])
        self.check_both(any_two, Table([], [operand("f", ANY, 0, 2)]), ("", ""), ("", ""))

    def test_names(self):
        self.check_both(Table([], [operand("f")]), Table([], [operand("g")]), ("",), ("",))
        one, other = Table([option("f", "", ("one", ANY))]), Table([], [operand("f")])
        self.check_both(one, other, ("--f", ""), ("",))
        none = Table([option("x", "", ("some", CHOSEN, 1, 1), 0, 1), option("y")], [], None, (), [("without", "x", "y")])
        self.check_none(judge_readers, Table([]), Table([option("a")], [operand("f")]))
        self.check_none(judge_readers, Table([option("y")]), none)

    def test_traits_conditions_and_commands(self):
        options = [option("a", "a"), option("b", "b")]
        for condition, words in [(("needs", "a", "b"), ("-a",)), (("without", "a", "b"), ("-ab",)), (("some", ("a", "b")), ())]:
            self.check(Table(options, [], None, (), [condition]), Table(options), *words)
        for trait, words in [("ends", ("--",)), ("mixed", ("0", "-a"))]:
            self.check(Table(options, [operand("f", FIGURE)]), Table(options, [operand("f", FIGURE)], None, (trait,)), *words)
        # with dashed, what is an option goes on to be read as one
        self.check(Table(options, [operand("f")]), Table(options, [operand("f")], None, ("dashed",)), "--")
        part, more = Table([option("c", "c")]), Table([option("c", "c"), option("d", "d")])
        self.check(Table([], [], {"go": part}), Table([], [], {"go": more}), "go", "-d")
        self.check(Table([], [], {"go": part}), Table([], [], {"go": part}, ("alone",)), *())
        self.check_both(Table([], [operand("f", ("chosen", "go"), 1, 1)]), Table([], [], {"go": Table([])}), ("go",), ("go",))

    def test_tables_that_are_not_clear(self):
        one = Table([], [operand("f", ANY, 0, 2), operand("g", ANY, 0, 2)])
        other = Table([], [operand("f", ANY, 0, 2), operand("g", ANY, 0, 3)])
        self.check(one, other, *[""] * 5)
        with self.assertRaises(NotClear):
            judge_extends(one, other)

    def test_least_lists_that_are_long(self):
        some = [Table([option("a", "a", ("some", CHOSEN, 4, 4)), option("b", high)], [operand("f", ANY, 1, 1)]) for high in ["b", ""]]
        self.check_parted(judge_readers, some[0], some[1], "-b", "")
        ten = Table([], [operand("f", ANY, 9, 9), operand("g", ANY, 9, 9), operand("h", ANY, 0, None)])
        most = Table([], [operand("f", ANY, 9, 9), operand("g", ANY, 9, 9), operand("h", ANY, 0, 9)])
        self.assertIsNone(judge_readers(most, ten))
        self.assertEqual(judge_readers(ten, most).words, ("",) * 28)


class Relations(unittest.TestCase):
    def test_of_clear_tables_that_are_read_greedily_it_is_as_by_27(self):
        before, none, found = None, 0, 0
        for seed, table in [*tables(0, 120), *small_tables(0, 150)]:
            if measures(table)[0] > 120 or not judge_clear(table) or judge_greedy(table) is not None:
                continue
            if before is not None:
                for judge, readers in [(judge_extends, judge_readers), (judge_alike, judge_readers_alike)]:
                    told, beside = judge(before, table), readers(before, table)
                    if told is None:
                        none += 1
                        self.assertIsNone(beside, seed)
                    else:
                        found += 1
                        self.assertEqual((told.words, told.one, told.other), (beside.words, beside.one, beside.other), seed)
                        self.assertEqual(told, Parted(beside.words, beside.one, beside.other))
            before = table
        self.assertGreater(min(none, found), 2)

    def test_both_ways_is_one_way_and_the_other_one(self):
        before = None
        for seed, table in small_tables(300, 360):
            if before is not None:
                told = [judge_readers(before, table), judge_readers(table, before)]
                least = min([length_of(one.words) for one in told if one is not None], default=None)
                both = judge_readers_alike(before, table)
                self.assertEqual(least, None if both is None else length_of(both.words), seed)
            before = table


class Shown(unittest.TestCase):
    def setUp(self):
        self.one = Table([option("a", "a", ("some", ANY, 0, 1), 0, 1)], [operand("f", CHOSEN, 0, 1)])
        self.other = Table([option("a", "a")], [operand("f", ANY, 0, 1)])

    def check(self, words, one, other, holds):
        self.assertIs(ReadersParted(words, one, other).shows(self.one, self.other), holds)

    def test_both_read_it(self):
        told = judge_readers(self.one, self.other)
        self.assertEqual(told.words, ("-a", ""))
        self.check(told.words, told.one, told.other, True)
        self.check(list(told.words), told.one, told.other, True)
        self.assertIs(told.shows(self.other, self.one), False)
        self.assertIs(told.shows(self.one, self.one), False)
        for words in [("-a",), (), ("-a", "1"), ("--a", "0", "0"), ("x",), None, "-a", ("-a", 0)]:
            self.check(words, told.one, told.other, False)
        for reading in [None, 7, told.one.key(), Refused(0), Reading({"a": None}, {"f": ()}, ""), Reading({}, {}, ""),
                        Reading(told.one.options, told.one.operands, "go"), Reading({"a": (("1",),)}, {"f": ()}, "")]:
            self.check(told.words, reading, told.other, False)
            self.check(told.words, told.one, reading, False)
        self.check(told.words, told.one, told.one, False)
        self.check(told.words, told.other, told.one, False)

    def test_a_reading_to_which_the_reader_does_not_come(self):
        words = ("-a", "a")
        beside = read(self.other, words)
        for reading in readings(self.one, words):
            self.check(words, reading, beside, reading == read(self.one, words))
        self.assertEqual(len(readings(self.one, words)), 2)

    def test_only_one_reads_it(self):
        words = ("-aa",)
        reading = read(self.other, words)
        self.check(words, None, reading, True)
        self.check(words, reading, None, False)
        self.check(words, reading, reading, False)
        self.check(words, None, None, False)
        self.check(words, read(self.one, words), reading, False)
        self.assertIs(ReadersParted(words, reading, None).shows(self.other, self.one), True)

    def test_readings_that_are_like_and_none_at_all(self):
        for words in [(), ("a",), ("-a",)]:
            self.check(words, read(self.one, words), read(self.other, words), False)
        self.check(("-x",), None, None, False)
        one, other = Table([option("a", "a")]), Table([option("a", "a"), option("b", "b")], [operand("f")])
        told = [read(table, ["-a"]) for table in [one, other]]
        self.assertNotEqual(*told)
        self.assertIs(ReadersParted(("-a",), *told).shows(one, other), False)

    def test_equality(self):
        told = judge_readers(self.one, self.other)
        self.assertTrue(told == judge_readers(self.one, self.other))
        self.assertEqual(ReadersParted(list(told.words), told.one, told.other), told)
        for other in [ReadersParted(told.words, told.other, told.one), ReadersParted((), told.one, told.other),
                      ReadersParted(told.words, told.one, None), Parted(told.words, told.one, told.other), None]:
            self.assertFalse(told == other)


class Sizes(unittest.TestCase):
    def test_tables_above_the_measures(self):
        fine = Table([option("a", "a")])
        large = Table([option("a", "", ("some", ANY, 9, 9)), option("b", "", NOTHING, 0, 3)])
        larger = Table([option("a", "", ("some", ANY, 9, 9)), option("b", "", NOTHING, 0, 4)])
        self.assertEqual((measures(large)[0], measures(larger)[0]), (132, 165))
        for judge in [judge_readers, judge_readers_alike, ReadersParted((), None, None).shows]:
            for one, other, number in [(large, fine, 132), (fine, large, 132), (large, larger, 132), (larger, large, 165)]:
                with self.assertRaises(TooLarge) as caught:
                    judge(one, other)
                self.assertEqual(caught.exception.number, number)


class Samples(Judged):
    def test_samples(self):
        before, none, found = None, 0, 0
        for seed, table in [*tables(0, 50), *small_tables(0, 50)]:
            if measures(table)[0] > 120:
                continue
            for judge in [judge_readers, judge_readers_alike]:
                self.assertIsNone(judge(table, table), seed)
                if before is not None:
                    told = judge(before, table)
                    if told is None or length_of(told.words) > 3:
                        none += 1
                        self.assertIsNone(least_readers_parted(before, table, 3, judge == judge_readers_alike), seed)
                    else:
                        found += 1
                        self.check_parted(judge, before, table, *told.words)
            before = table
        self.assertGreater(min(none, found), 2)


if __name__ == "__main__":
    unittest.main()
