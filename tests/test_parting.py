"""Two tables: point [27]."""

import unittest

from switchyard.clear import Twice, judge_clear
from switchyard.errors import TooLarge
from switchyard.judgeerrors import NotClear
from switchyard.machines import measures
from switchyard.parting import Parted, judge_alike, judge_extends
from switchyard.readings import Reading, readings
from switchyard.tables import Operand, Option, Table
from tests.brute import least_parted, length_of
from tests.samples import tables

ANY = ("any",)
NOTHING = ("nothing",)
CHOSEN = ("chosen", "a", "b")
FIGURE = ("number", 0, 9)


def option(name, letter="", takes=NOTHING, low=0, high=None):
    return Option(name, letter, takes, low, high)


def operand(name, kind=ANY, few=0, many=None):
    return Operand(name, kind, few, many)


class Judged(unittest.TestCase):
    def check_none(self, judge, one, other, most=4):
        self.assertIsNone(judge(one, other))
        self.assertIsNone(least_parted(one, other, most, judge == judge_alike))

    def check_parted(self, judge, one, other, *words):
        told = judge(one, other)
        self.assertIsInstance(told, Parted)
        self.assertEqual(told.words, words)
        found, ones, others = least_parted(one, other, length_of(words), judge == judge_alike)
        self.assertEqual(told.words, found)
        for reading, keys in [(told.one, ones), (told.other, others)]:
            self.assertEqual([] if reading is None else [reading.key()], keys)
        self.assertIs(told.shows(one, other), True)

    def check(self, smaller, larger, *words):
        """That the larger table reads all that the smaller one reads, and this list, too."""
        self.check_none(judge_extends, smaller, larger)
        self.check_parted(judge_extends, larger, smaller, *words)
        self.check_parted(judge_alike, smaller, larger, *words)
        self.check_parted(judge_alike, larger, smaller, *words)

    def check_both(self, one, other, words, more):
        """That each table is parted from the other one, by these lists."""
        self.check_parted(judge_extends, one, other, *words)
        self.check_parted(judge_extends, other, one, *more)
        least = min([words, more], key=lambda row: (length_of(row), [sign for word in row for sign in [*word, ""]]))
        self.check_parted(judge_alike, one, other, *least)
        self.check_parted(judge_alike, other, one, *least)


class Extends(Judged):
    def test_a_table_and_itself(self):
        part = Table([option("b", "b")], [operand("f", FIGURE, 0, 1)])
        for table in [Table([]), Table([option("a", "a", ("maybe", FIGURE), 0, 1)], [operand("f")]),
                      Table([option("a", "a")], [], {"go": part}, ("far",)), Table([option("a", "", NOTHING, 1)])]:
            self.check_none(judge_extends, table, table)
            self.check_none(judge_alike, table, table)

    def test_options(self):
        one, two = option("add", "a"), option("b", "b", ("one", ANY))
        self.check(Table([one]), Table([one, two]), "-b", "")
        self.check(Table([option("add")]), Table([one]), "-a")
        self.check(Table([two]), Table([one, two]), "-a")
        self.check_both(Table([one]), Table([option("ad", "a")]), ("-a",), ("-a",))

    def test_bounds(self):
        self.check(Table([option("a", "a", NOTHING, 0, 1)]), Table([option("a", "a", NOTHING, 0, 2)]), "-aa")
        self.check(Table([option("a", "a", NOTHING, 1)]), Table([option("a", "a")]), *())
        self.check(Table([], [operand("f", ANY, 0, 2)]), Table([], [operand("f", ANY, 0, None)]), "", "", "")
        self.check(Table([], [operand("f", ANY, 1, 2)]), Table([], [operand("f", ANY, 0, 2)]), *())
        some = [Table([option("a", "a", ("some", CHOSEN, *bounds))]) for bounds in [(1, 2), (0, 2), (1, 3)]]
        self.check(some[0], some[1], "-a")
        self.check(some[0], some[2], "-a", "a", "a", "a")
        self.check_both(some[1], some[2], ("-a",), ("-a", "a", "a", "a"))

    def test_kinds_and_takes(self):
        self.check(Table([], [operand("f", FIGURE)]), Table([], [operand("f", ("number", 0, 10))]), "10")
        self.check(Table([], [operand("f", FIGURE)]), Table([], [operand("f", ANY)]), "")
        self.check_both(Table([], [operand("f", FIGURE)]), Table([], [operand("f", CHOSEN)]), ("0",), ("a",))
        self.check(Table([option("a", "a")]), Table([option("a", "a", ("maybe", FIGURE))]), "-a0")
        self.check(Table([option("a", "", ("one", CHOSEN))]), Table([option("a", "", ("one", ("chosen", "a", "b", "c")))]), "--a", "c")
        self.check_both(Table([option("a", "a")]), Table([option("a", "a", ("one", CHOSEN))]), ("-a",), ("-aa",))

    def test_traits(self):
        one = [option("add", "", NOTHING), option("b", "b", NOTHING, 0, 1)]
        for trait, words in [("abbreviated", ("--a",)), ("guessed", ("--a",)), ("ends", ("--",))]:
            self.check(Table(one), Table(one, [], None, (trait,)), *words)
        groups = [operand("f", FIGURE)]
        self.check(Table(one, groups), Table(one, groups, None, ("mixed",)), "0", "-b")
        self.check(Table([], [operand("f")]), Table([], [operand("f")], None, ("dashed",)), "--")
        part = Table([option("c", "c")])
        self.check(Table(one, [], {"go": part}), Table(one, [], {"go": part}, ("alone",)), *())
        self.check(Table(one, [], {"go": part}), Table(one, [], {"go": part}, ("far",)), "go", "-b")

    def test_conditions(self):
        options = [option("a", "a"), option("b", "b")]
        for condition, words in [(("needs", "a", "b"), ("-a",)), (("without", "a", "b"), ("-ab",)), (("some", ("a", "b")), ())]:
            self.check(Table(options, [], None, (), [condition]), Table(options), *words)
        self.check_both(
            Table(options, [], None, (), [("needs", "a", "b")]), Table(options, [], None, (), [("needs", "b", "a")]),
            ("-b",), ("-a",),
        )

    def test_commands(self):
        part, more = Table([option("c", "c")]), Table([option("c", "c"), option("d", "d")])
        self.check(Table([], [], {"go": part}), Table([], [], {"go": more}), "go", "-d")
        self.check(Table([], [], {"go": part}), Table([], [], {"go": part, "up": Table([])}), "up")
        self.check_both(Table([], [operand("f", ("chosen", "go"), 1, 1)]), Table([], [], {"go": Table([])}), ("go",), ("go",))

    def test_names(self):
        self.check_both(Table([], [operand("f")]), Table([], [operand("g")]), ("",), ("",))
        self.check_both(Table([option("a")]), Table([option("b")]), ("--a",), ("--b",))
        self.check_both(Table([option("a", "a")]), Table([option("b", "a")]), ("-a",), ("-a",))
        none = Table([option("x", "", ("some", CHOSEN, 1, 1), 0, 1), option("y")], [], None, (), [("without", "x", "y")])
        self.check_none(judge_extends, Table([]), Table([option("a")], [operand("f")]))
        self.check_none(judge_extends, Table([option("y")]), none)

    def test_an_option_of_one_and_an_operand_of_the_other(self):
        one, other = Table([option("f", "", ("one", ANY))]), Table([], [operand("f")])
        self.check_parted(judge_extends, one, other, "--f", "")
        self.check_parted(judge_extends, other, one, "")
        self.check_none(judge_extends, Table([option("g")], [operand("f")]), Table([option("g")], [operand("f")]))

    def test_read_by_both_and_otherwise(self):
        old = Table([option("verify")], [], {}, ["abbreviated"])
        new = Table([option("verify"), option("version")], [], {}, ["abbreviated"])
        self.check_parted(judge_extends, old, new, "--v")
        self.check_both(Table([option("a", "x"), option("b")]), Table([option("a"), option("b", "x")]), ("-x",), ("-x",))
        one = Table([option("a", "", ("one", FIGURE))])
        other = Table([option("a")], [operand("f", FIGURE)])
        self.check_both(one, other, ("--a", "0"), ("0",))
        told = judge_extends(one, other)
        self.assertEqual(told.one.options, {"a": (("0",),)})
        self.assertEqual(told.other.options, {"a": ((),)})
        self.assertEqual(told.other.operands, {"f": ("0",)})

    def test_one_list_is_not_read_and_another_one_otherwise(self):
        for sign, other in ["ab", "ba"]:
            one = Table([option("x", sign), option("y", other)])
            self.check_parted(judge_extends, one, Table([option("x", other)]), "-a")
            self.check_parted(judge_alike, Table([option("x", other)]), one, "-a")

    def test_groups(self):
        one = Table([], [operand("f", ANY, 1, 1), operand("g")])
        other = Table([], [operand("f", ANY, 2, 2), operand("g")])
        self.check_both(one, other, ("",), ("", ""))
        self.check_parted(judge_extends, Table([], [operand("f", ANY, 2, 2)]), Table([], [operand("f", ANY, 1, 1), operand("g")]), "", "")

    def test_least_lists_that_are_long(self):
        one = Table([], [operand("f", CHOSEN), operand("g", ("chosen", "a"), 1, 1), operand("h", CHOSEN, 2, 2)])
        other = Table([], [operand("f", CHOSEN), operand("g", ("chosen", "a"), 1, 1), operand("h", CHOSEN, 1, 1)])
        self.check_parted(judge_extends, one, other, "a", "a", "a")
        self.check_parted(judge_extends, other, one, "a", "a")
        nine = Table([], [operand("f", CHOSEN), operand("g", ("chosen", "a"), 1, 1), operand("h", CHOSEN, 9, 9)])
        self.assertIsNone(judge_alike(nine, nine))
        ten = Table([], [operand("f", ANY, 9, 9), operand("g", ANY, 9, 9), operand("h", ANY, 0, None)])
        most = Table([], [operand("f", ANY, 9, 9), operand("g", ANY, 9, 9), operand("h", ANY, 0, 9)])
        self.assertIsNone(judge_extends(most, ten))
        self.assertEqual(judge_extends(ten, most).words, ("",) * 28)


class Shown(unittest.TestCase):
    def setUp(self):
        self.one = Table([option("a", "a", ("some", FIGURE, 1, 1))], [operand("f", CHOSEN)])
        self.other = Table([option("a", "a")], [operand("f")], None, ("mixed",))

    def check(self, words, one, other, holds):
        self.assertIs(Parted(words, one, other).shows(self.one, self.other), holds)

    def test_both_read_it(self):
        told = judge_extends(self.one, self.other)
        self.assertEqual(told.words, ("-a", "0"))
        self.check(told.words, told.one, told.other, True)
        self.check(list(told.words), told.one, told.other, True)
        self.assertIs(told.shows(self.other, self.one), False)
        self.assertIs(told.shows(self.one, self.one), False)
        for words in [("-a",), (), ("-a", "1"), ("--a", "0", "0"), ("x",), None, "-a", ("-a", 0)]:
            self.check(words, told.one, told.other, False)
        self.assertEqual(Parted(list(told.words), told.one, told.other), told)
        for reading in [None, 7, told.one.key(), Reading({"a": None}, {"f": ()}, ""), Reading(told.one.options, told.one.operands, "go"), Reading({"a": (("1",),)}, {"f": ()}, ""), Reading({}, {}, "")]:
            self.check(told.words, reading, told.other, False)
            self.check(told.words, told.one, reading, False)
        self.check(told.words, told.one, told.one, False)
        self.check(told.words, None, None, False)

    def test_only_one_reads_it(self):
        words = ("0", "-a")
        reading = readings(self.other, words)[0]
        self.check(words, None, reading, True)
        self.check(words, reading, None, False)
        self.check(words, reading, reading, False)
        self.check(words, None, None, False)
        self.check(words, 7, reading, False)
        back = Parted(words, reading, None)
        self.assertIs(back.shows(self.other, self.one), True)
        self.check(("-x",), None, None, False)

    def test_readings_that_are_like(self):
        for words in [(), ("a",), ("b", "a")]:
            self.check(words, readings(self.one, words)[0], readings(self.other, words)[0], False)

    def test_names_that_one_has_not(self):
        one, other = Table([option("a", "a")]), Table([option("a", "a"), option("b", "b")], [operand("f")])
        told = [readings(table, ["-a"])[0] for table in [one, other]]
        self.assertNotEqual(*told)
        self.assertIs(Parted(("-a",), *told).shows(one, other), False)
        self.assertIs(Parted(("-b",), None, readings(other, ["-b"])[0]).shows(one, other), True)

    def test_lists_of_many_words(self):
        words = ("0",) * 40
        reading = Reading({"a": ()}, {"f": words}, "")
        self.check(words, None, reading, True)
        self.check(words[1:], None, reading, False)

    def test_equality(self):
        told = judge_extends(self.one, self.other)
        self.assertTrue(told == judge_extends(self.one, self.other))
        self.assertFalse(told == Parted(told.words, told.other, told.one))
        self.assertFalse(told == Parted((), told.one, told.other))
        self.assertFalse(told == Parted(told.words, told.one, None))
        self.assertFalse(told == Parted(told.words, None, told.other))
        self.assertFalse(told == Twice(told.words, told.one, told.other))
        self.assertFalse(told == None)  # noqa: E711


class Refused(unittest.TestCase):
    def setUp(self):
        self.clear = Table([option("a", "a")])
        self.twice = Table([option("a", "a", ("some", ANY, 0, 1))], [operand("f", ANY, 0, 1)])
        self.other = Table([], [operand("f"), operand("g")])
        self.large = Table([option("a", "", ("some", ANY, 9, 9)), option("b", "", NOTHING, 0, 3)])
        self.larger = Table([option("a", "", ("some", ANY, 9, 9)), option("b", "", NOTHING, 0, 4)])

    def test_tables_that_are_not_clear(self):
        for judge in [judge_extends, judge_alike]:
            for one, other, wrong in [
                (self.twice, self.clear, self.twice), (self.clear, self.twice, self.twice),
                (self.twice, self.other, self.twice), (self.other, self.twice, self.other), (self.twice, self.twice, self.twice),
            ]:
                with self.assertRaises(NotClear) as caught:
                    judge(one, other)
                self.assertEqual(caught.exception.twice, judge_clear(wrong))
                self.assertIsInstance(caught.exception.twice, Twice)

    def test_tables_above_the_measures(self):
        self.assertEqual((measures(self.large)[0], measures(self.larger)[0]), (132, 165))
        part = Parted((), None, None)
        for judge in [judge_extends, judge_alike, part.shows]:
            for one, other, number in [
                (self.large, self.clear, 132), (self.clear, self.large, 132), (self.large, self.larger, 132),
                (self.larger, self.large, 165), (self.twice, self.large, 132), (self.large, self.twice, 132),
            ]:
                with self.assertRaises(TooLarge) as caught:
                    judge(one, other)
                self.assertEqual(caught.exception.number, number)


class Samples(Judged):
    def test_samples(self):
        before, none, found = None, 0, 0
        for seed, table in tables(0, 80):
            if measures(table)[0] > 120 or not judge_clear(table):
                continue
            self.assertIsNone(judge_alike(table, table), seed)
            for judge in [judge_extends, judge_alike]:
                if before is not None:
                    told = judge(before, table)
                    if told is None or length_of(told.words) > 3:
                        none += 1
                        self.assertIsNone(least_parted(before, table, 3, judge == judge_alike), seed)
                    else:
                        found += 1
                        self.check_parted(judge, before, table, *told.words)
            before = table
        self.assertGreater(min(none, found), 2)


if __name__ == "__main__":
    unittest.main()
