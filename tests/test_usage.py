"""What is used, sure beginnings, free names: points [28], [32] and [33]."""

import unittest

from switchyard.clear import judge_clear
from switchyard.errors import TooLarge
from switchyard.judgeerrors import BadName, NotClear
from switchyard.machines import measures
from switchyard.parting import Parted, judge_extends
from switchyard.readings import all_readings
from switchyard.tables import Operand, Option, Table
from switchyard.usage import judge_free, needless, sure_beginnings, used_by
from tests.brute import least_parted, least_uses, length_of, meant_texts, sure_texts, texts_in_lists
from tests.samples import small_tables, tables

ANY = ("any",)
NOTHING = ("nothing",)
CHOSEN = ("chosen", "a", "b")
FIGURE = ("number", 0, 9)


def option(name, letter="", takes=NOTHING, low=0, high=None):
    return Option(name, letter, takes, low, high)


def operand(name, kind=ANY, few=0, many=None):
    return Operand(name, kind, few, many)


def parts_of(table):
    parts = [("command", name) for name in table.commands]
    for part in [table, *table.commands.values()]:
        parts += [("letter", one.name) for one in part.options if one.letter]
        parts += [("option", one.name) for one in part.options] + [("operand", one.name) for one in part.operands]
    return sorted(parts)


class Used(unittest.TestCase):
    def check(self, table, used, most=6):
        told = used_by(table)
        self.assertEqual({part: words for part, words in told.items() if words is not None}, used)
        self.check_all(table, told, most)

    def check_all(self, table, told, most):
        self.assertEqual(list(told), parts_of(table))
        self.assertEqual(needless(table), tuple(part for part, words in told.items() if words is None))
        least = least_uses(table, most)
        for part, words in told.items():
            if part in least:
                self.assertEqual(words, least[part], part)
            elif words is not None:
                self.assertGreater(length_of(words), most)
                self.check_uses(all_readings(table, words), *part)

    def check_uses(self, found, what, name):
        if what == "command":
            self.assertIn(name, [one.command for one in found])
        elif what == "operand":
            self.assertTrue(any(one.operands.get(name) for one in found))
        else:
            self.assertTrue(any(one.options.get(name) for one in found))

    def test_all_parts(self):
        part = Table([option("x", "x", ("one", CHOSEN))], [operand("g", FIGURE, 0, 1)])
        table = Table([option("add", "a"), option("b")], [operand("f", CHOSEN)], {"go": part, "up": Table([])})
        self.check(table, {
            ("command", "go"): ("go",), ("command", "up"): ("up",), ("letter", "add"): ("-a", "go"),
            ("letter", "x"): ("go", "-xa"), ("operand", "f"): ("a", "go"), ("operand", "g"): ("go", "0"),
            ("option", "add"): ("-a", "go"), ("option", "b"): ("--b", "go"), ("option", "x"): ("go", "-xa"),
        })
        self.assertEqual(needless(table), ())

    def test_nothing(self):
        self.check(Table([]), {})
        self.assertEqual((used_by(Table([])), needless(Table([]))), ({}, ()))

    def test_values_that_are_told_too(self):
        table = Table([option("a", "a", ("some", CHOSEN, 2, 2)), option("b", "b", ("one", ANY), 1, 1)])
        self.check(table, {
            ("letter", "a"): ("-a", "a", "a", "-b", ""), ("letter", "b"): ("-b", ""),
            ("option", "a"): ("-a", "a", "a", "-b", ""), ("option", "b"): ("-b", ""),
        })

    def test_bounds_and_conditions(self):
        three = [option("a", "a", NOTHING, 1, 1), option("b", "b"), option("c", "c", NOTHING, 0, 1)]
        table = Table(three, [], None, (), [("without", "a", "b"), ("needs", "c", "b")])
        self.check(table, {("letter", "a"): ("-a",), ("option", "a"): ("-a",)})
        self.assertEqual(needless(table), (("letter", "b"), ("letter", "c"), ("option", "b"), ("option", "c")))
        table = Table(three[1:], [], None, (), [("some", ("b",)), ("without", "b", "c")])
        self.check(table, {("letter", "b"): ("-b",), ("option", "b"): ("-b",)})
        none = Table([option("a", "", NOTHING, 1), option("b", "", NOTHING, 1)], [operand("f")], None, (), [("without", "a", "b")])
        self.check(none, {})
        self.assertEqual(needless(none), (("operand", "f"), ("option", "a"), ("option", "b")))

    def test_groups_that_no_word_can_reach(self):
        table = Table([], [operand("f", ANY, 2, 2), operand("g", CHOSEN)], {"go": Table([option("x", "x")])})
        self.check(table, {
            ("command", "go"): ("", "", "go"), ("letter", "x"): ("", "", "go", "-x"), ("operand", "f"): ("", "", "go"),
            ("operand", "g"): ("", "", "a", "go"), ("option", "x"): ("", "", "go", "-x"),
        })
        part = Table([option("x", "x", NOTHING, 1), option("y", "y", NOTHING, 1)], [], None, (), [("without", "x", "y")])
        table = Table([], [operand("f", CHOSEN, 0, 1)], {"go": part}, ("alone",))
        self.check(table, {("operand", "f"): ("a",)})

    def test_names_that_others_hide(self):
        part = Table([option("x", "x")])
        table = Table([option("a", "a", ("maybe", ANY))], [], {"go": part}, ("far",))
        self.check(table, {
            ("command", "go"): ("go",), ("letter", "a"): ("-a", "go"), ("letter", "x"): ("go", "-x"),
            ("option", "a"): ("-a", "go"), ("option", "x"): ("go", "-x"),
        })
        table = Table([option("a", "a", ("some", CHOSEN, 0, None), 1)], [operand("f", CHOSEN, 0, 1)])
        self.check(table, {("letter", "a"): ("-a",), ("operand", "f"): ("-a", "a"), ("option", "a"): ("-a",)})
        table = Table([option("a", "a", NOTHING, 1)], [operand("f", FIGURE, 1, 1)])
        self.check(table, {("letter", "a"): ("-a", "0"), ("operand", "f"): ("-a", "0"), ("option", "a"): ("-a", "0")})

    def test_a_letter_that_comes_in_a_longer_list_only(self):
        table = Table([option("b", "x", ("some", CHOSEN, 0, 1), 0, 1)], [], None, ("abbreviated",))
        self.check(table, {("letter", "b"): ("-x",), ("option", "b"): ("-x",)})
        table = Table([option("a", "b", ("maybe", FIGURE))], [operand("f", ("number", -9, 0), 1, 1)])
        self.check(table, {("letter", "a"): ("-b", "0"), ("operand", "f"): ("0",), ("option", "a"): ("-b", "0")})

    def test_each_dict_is_new(self):
        table = Table([option("a", "a")])
        used_by(table).clear()
        self.assertEqual(len(used_by(table)), 2)

    def test_samples(self):
        unused = 0
        for seed, table in small_tables(0, 80):
            told = used_by(table)
            self.check_all(table, told, 4)
            unused += None in told.values()
        self.assertGreater(unused, 0)

    def test_least_lists_that_are_long(self):
        table = Table([option("a", "a", ("some", CHOSEN, 9, 9))], [operand("f", ANY, 2, 2)])
        self.assertEqual(used_by(table)[("option", "a")], ("-a", *["a"] * 9, "", ""))


class Sure(unittest.TestCase):
    def check(self, table, **sure):
        told = sure_beginnings(table)
        self.assertEqual(told, sure)
        self.assertEqual(list(told), sorted(told))
        self.assertEqual(told, sure_texts(table))

    def test_without_beginnings_names_are_sure_as_a_whole(self):
        for traits in [(), ("dashed",), ("ends",), ("dashed", "ends", "mixed")]:
            self.check(Table([option("add"), option("adder"), option("b")], [operand("f")], None, traits),
                       add="add", adder="adder", b="b")
        self.check(Table([]))

    def test_beginnings(self):
        options = [option("verify"), option("version"), option("add", "", ("one", ANY)), option("adder", "", ("maybe", CHOSEN))]
        for traits in [("abbreviated",), ("abbreviated", "dashed"), ("abbreviated", "ends", "mixed")]:
            self.check(Table(options, [operand("f")], None, traits), verify="veri", version="vers", add="add", adder="adde")
        self.check(Table(options, [], None, ("guessed",)), verify="veri", version="vers", add="add", adder="adde")
        self.check(Table([option("add", "a")], [], None, ("abbreviated",)), add="a")

    def test_names_that_begin_one_another(self):
        for trait in ["abbreviated", "guessed"]:
            self.check(Table([option("a"), option("ab"), option("abc")], [], None, (trait,)), a="a", ab="ab", abc="abc")
            self.check(Table([option("abc"), option("b")], [], None, (trait,)), abc="a", b="b")

    def test_options_that_can_never_come(self):
        never = [("without", "adder", "must")]
        options = [option("must", "", NOTHING, 1), option("add", "", ("one", CHOSEN)), option("adder")]
        self.check(Table(options, [], None, ("guessed",), never), add="a", adder=None, must="m")
        self.check(Table(options, [], None, ("abbreviated",), never), add="add", adder=None, must="m")
        self.check(Table(options, [], None, (), never), add="add", adder=None, must="must")
        none = Table([option("a", "", NOTHING, 1), option("b", "", NOTHING, 1)], [], None, (), [("without", "a", "b")])
        self.check(none, a=None, b=None)

    def test_words_with_values(self):
        options = [option("ab", "", ("one", CHOSEN)), option("ac")]
        self.check(Table(options, [], None, ("guessed",)), ab="ab", ac="ac")
        self.check(Table([option("ab", "", ("some", ANY, 1, 1)), option("b", "", ("maybe", ANY))], [], None, ("guessed",)), ab="a", b="b")
        # the only coming of ab takes two values, which leave no room for it to be read by a value in its word
        self.check(Table([option("ab", "", ("one", FIGURE), 1, 1), option("ac", "", NOTHING, 0, 1)], [], None, ("abbreviated",)),
                   ab="ab", ac="ac")

    def test_commands(self):
        part = Table([option("adder"), option("x")], [], None, ("abbreviated",))
        # behind go, the word --add is read as adder, if add is not known there
        self.check(Table([option("add")], [], {"go": part}, ("abbreviated",)), add=None, adder="adde", x="x")
        self.check(Table([option("add")], [], {"go": part}, ("abbreviated", "far")), add="a", adder="adde", x="x")
        own = Table([option("adder"), option("x")])
        self.check(Table([option("add")], [], {"go": own}, ("abbreviated",)), add="a", adder="adder", x="x")
        self.check(Table([option("add")], [], {"go": own}, ("abbreviated", "far")), add="a", adder="adder", x="x")
        self.check(Table([option("add")], [], {"go": part}), add=None, adder="a", x="x")
        self.check(Table([option("add")], [], {"go": part}, ("far",)), add="add", adder="adde", x="x")
        two = {"go": Table([option("one")], [], None, ("abbreviated",)), "up": Table([option("only")], [], None, ("guessed",))}
        self.check(Table([], [], two), one="one", only="onl")

    def test_a_command_that_is_never_read(self):
        dead = Table([option("ab", "", NOTHING, 1), option("b", "", NOTHING, 1)], [], None, ("guessed",), [("without", "ab", "b")])
        self.check(Table([option("ac")], [], {"go": dead}, ("abbreviated", "alone")), ab=None, ac="a", b=None)

    def test_samples(self):
        for seed, table in [*tables(0, 60), *small_tables(100, 200)]:
            if measures(table)[0] <= 120:
                self.assertEqual(sure_beginnings(table), sure_texts(table), seed)

    def test_all_lists_up_to_some_length(self):
        for options, commands, traits in [
            ([option("a"), option("ab")], {}, ()), ([option("a"), option("ab")], {}, ("abbreviated",)),
            ([option("ab"), option("ac")], {}, ("guessed",)), ([option("ab"), option("ac")], {}, ("abbreviated", "ends")),
            ([option("ab", "", ("maybe", ("chosen", "b"))), option("ba")], {}, ("guessed", "dashed", "mixed")),
            ([option("a"), option("ab", "", NOTHING, 0, 1)], {"c": Table([option("b")])}, ("abbreviated", "alone", "far")),
            ([option("b")], {"c": Table([option("ba")], [], None, ("abbreviated",))}, ("alone",)),
            ([option("b")], {"c": Table([option("ba")], [], None, ("guessed",))}, ("alone", "far")),
        ]:
            table = Table(options, [], commands, traits)
            self.assertEqual(sure_beginnings(table), sure_texts(table, texts_in_lists(table, 7 if commands else 6)))

    def test_lists_of_samples(self):
        whole = 0
        for seed, table in small_tables(0, 100):
            pairs = texts_in_lists(table, 5)
            self.assertLessEqual(pairs, meant_texts(table), seed)
            if pairs == meant_texts(table):
                whole += bool(pairs)
                self.assertEqual(sure_beginnings(table), sure_texts(table, pairs), seed)
        self.assertGreater(whole, 10)


class Free(unittest.TestCase):
    def check_free(self, table, name, most=6):
        self.assertIsNone(judge_free(table, name))
        self.assertIsNone(least_parted(table, self.extended(table, name), most, False))

    def check_not(self, table, name, *words):
        told = judge_free(table, name)
        other = self.extended(table, name)
        self.assertIsInstance(told, Parted)
        self.assertEqual((told.words, told), (words, judge_extends(table, other)))
        self.assertEqual(words, least_parted(table, other, length_of(words), False)[0])
        self.assertTrue(told.shows(table, other))

    def extended(self, table, name):
        options = [*table.options, Option(name, "", ("nothing",), 0, None)]
        return Table(options, table.operands, table.commands, table.traits, table.conditions)

    def check_bad(self, table, name):
        with self.assertRaises(BadName) as caught:
            judge_free(table, name)
        self.assertEqual(caught.exception.name, name)

    def check_not_clear(self, table, name, wrong):
        with self.assertRaises(NotClear) as caught:
            judge_free(table, name)
        self.assertEqual(caught.exception.twice, judge_clear(wrong))

    def test_names_that_leave_all_lists_as_they_were(self):
        options = [option("add", "a"), option("b", "b", ("one", ANY))]
        for traits in [(), ("abbreviated",), ("guessed",), ("ends",), ("mixed",)]:
            self.check_free(Table(options, [operand("f")], None, traits), "c", 4)
        self.check_free(Table(options), "ad")
        self.check_free(Table(options), "adder")
        self.check_free(Table([]), "abcdefgh")
        self.check_free(Table([option("a")], [], {"go": Table([])}, ("far",)), "b")
        self.check_free(Table([option("ab", "", NOTHING, 1), option("b", "", NOTHING, 1)], [operand("f")], None,
                              ("abbreviated",), [("without", "ab", "b")]), "a")

    def test_beginnings_of_known_names(self):
        for name, words in [("a", ("--a",)), ("ad", ("--a",)), ("adder", ("--a",)), ("ax", ("--a",))]:
            self.check_not(Table([option("add")], [], None, ("abbreviated",)), name, *words)
        self.check_not(Table([option("add")], [], None, ("guessed",)), "a", "--a")
        self.check_free(Table([option("a")], [], None, ("abbreviated",)), "ab", 7)
        self.check_not(Table([option("add", "", NOTHING, 1)], [], {"go": Table([])}, ("abbreviated",)), "ad", "--a", "go")
        far = Table([option("x")], [], {"go": Table([option("add")], [], None, ("abbreviated",))}, ("far",))
        self.check_not(far, "a", "go", "--a")
        self.check_free(Table(far.options, [], far.commands), "a")

    def test_operands_that_begin_with_dashes(self):
        for traits in [("dashed",), ("dashed", "ends"), ("dashed", "abbreviated", "mixed")]:
            table = Table([], [operand("f")], None, traits)
            for name in ["b", "abc"]:
                self.check_not_clear(table, name, self.extended(table, name))
        one = Table([], [operand("f", ANY, 1, 1)], None, ("dashed",))
        self.check_free(one, "b")
        self.check_free(Table([], [operand("f", CHOSEN)], None, ("dashed",)), "a")
        self.check_free(Table([option("a", "a", ("some", ANY, 1, 1))], [], None, ("dashed",)), "b", 5)
        value = Table([option("a", "a", ("some", ANY, 0, 1), 1, 1)], [operand("f", ANY, 0, 1)], None, ("dashed",))
        self.check_not_clear(value, "b", value)

    def test_names_that_are_none(self):
        table = Table([option("add", "a")], [operand("f", CHOSEN)], {"go": Table([option("x")], [operand("g")])})
        for name in ["", "A", "1a", "a b", "abcdefghi", "-a", None, 7, ("b",), ["b"], "add", "f", "x", "g"]:
            self.check_bad(table, name)
        self.check_free(table, "go", 4)

    def test_tables_with_eight_options(self):
        self.check_bad(Table([option(name) for name in "abcdefgh"]), "i")
        self.check_free(Table([option(name) for name in "abcdefg"]), "i", 3)

    def test_tables_that_are_not_clear(self):
        twice = Table([option("a", "a", ("some", ANY, 0, 1))], [operand("f", ANY, 0, 1)])
        self.check_not_clear(twice, "b", twice)
        self.check_bad(twice, "a")
        guessed = Table([option("add")], [], None, ("guessed",))
        self.check_not_clear(guessed, "adder", self.extended(guessed, "adder"))
        dashed = Table([option("a", "a", ("some", ANY, 0, 1))], [], None, ("dashed",))
        self.check_not_clear(dashed, "b", dashed)

    def test_further_options_that_extend_what_extends(self):
        table = Table([option("add", "a")], [operand("f", FIGURE)], None, ("mixed",))
        before = table
        for name in ["b", "c", "d"]:
            self.assertIsNone(judge_free(before, name))
            before = self.extended(before, name)
            self.assertIsNone(judge_extends(table, before))

    def test_samples(self):
        free, parted, unclear = 0, 0, 0
        for seed, table in small_tables(0, 120):
            if not judge_clear(table):
                continue
            other = self.extended(table, "abb")
            if not judge_clear(other):
                unclear += 1
                self.check_not_clear(table, "abb", other)
                continue
            told = judge_free(table, "abb")
            if told is None:
                free += 1
                self.assertIsNone(least_parted(table, other, 4, False), seed)
            else:
                parted += 1
                if length_of(told.words) <= 5:
                    self.check_not(table, "abb", *told.words)
        self.assertGreater(min(free, parted, unclear), 1)


class Sizes(unittest.TestCase):
    def test_tables_above_the_measures(self):
        large = Table([option("a", "", ("some", ANY, 9, 9)), option("b", "", NOTHING, 0, 3)])
        signs = Table([], [operand(name, ("number", -99, 99), 1, 1) for name in "abc"])
        for table, number in [(large, 132), (signs, 1442)]:
            self.assertIn(number, measures(table))
            for judge in [used_by, needless, sure_beginnings, lambda one: judge_free(one, "c1")]:
                with self.assertRaises(TooLarge) as caught:
                    judge(table)
                self.assertEqual(caught.exception.number, number)
            with self.assertRaises(BadName):
                judge_free(table, "b")

    def test_a_table_that_is_too_large_with_the_further_option_alone(self):
        kinds = [("number", -99, 99), ("number", -99, 99), ("number", -2, 99)]
        options = [option(name, "", ("one", kind)) for name, kind in zip("abc", kinds)]
        options += [option(f"z234567{at}") for at in range(4)]
        table = Table(options)
        self.assertEqual(measures(table), (12, 1193))
        with self.assertRaises(TooLarge) as caught:
            judge_free(table, "y2345678")
        self.assertEqual(caught.exception.number, 1201)
        self.assertIsNone(judge_free(table, "y234567"))


if __name__ == "__main__":
    unittest.main()
