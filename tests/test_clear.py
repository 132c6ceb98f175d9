"""Clear tables: points [1], [20], [25] and [26]."""

import unittest

from switchyard.clear import Clear, Twice, judge_clear
from switchyard.errors import TooLarge
from switchyard.machines import FIRST_PLACE, measures
from switchyard.readings import Reading, readings
from switchyard.tables import Operand, Option, Table
from tests.brute import is_clear_paper, least_twice, length_of
from tests.samples import tables

ANY = ("any",)
NOTHING = ("nothing",)
CHOSEN = ("chosen", "a", "b")
FIGURE = ("number", 0, 9)


def option(name, letter="", takes=NOTHING, low=0, high=None):
    return Option(name, letter, takes, low, high)


def operand(name, kind=ANY, few=0, many=None):
    return Operand(name, kind, few, many)


def place(path="", group=0, words=0, over=0, pending=(), counts=(), part=()):
    return (path, group, words, over, pending, counts, part)


def large_table(*commands):
    """A table of the first measure 117, and 3 for each command."""
    groups = [operand("f", FIGURE, 0, 9), operand("g", CHOSEN, 0, 2)]
    return Table([option("o", "", ("some", ANY, 1, 1))], groups, {name: Table([]) for name in commands})


FLAG = Table([option("all", "a", NOTHING, 0, 1)])
DOUBLE = Table([option("a", "a", ("some", ANY, 0, 1))], [operand("f", ANY, 0, 1)])


class Judged(unittest.TestCase):
    def check_clear(self, table, most):
        told = judge_clear(table)
        self.assertIsInstance(told, Clear)
        self.assertIs(bool(told), True)
        self.assertTrue(is_clear_paper(table, told.lags, told.dead))
        self.assertIs(told.shows(table), True)
        self.assertIsNone(least_twice(table, most))

    def check_twice(self, table, *words):
        told = judge_clear(table)
        self.assertIsInstance(told, Twice)
        self.assertIs(bool(told), False)
        self.assertEqual(told.words, words)
        found, keys = least_twice(table, length_of(words))
        self.assertEqual(told.words, found)
        self.assertIn(told.one.key(), keys)
        self.assertIn(told.other.key(), keys)
        self.assertNotEqual(told.one, told.other)
        self.assertIs(told.shows(table), True)


class ClearTables(Judged):
    def test_without_anything(self):
        self.check_clear(Table([]), 4)
        self.check_clear(Table([option("a", "", NOTHING, 1)], [], None, (), [("needs", "a", "b")][:0]), 6)

    def test_without_any_list(self):
        table = Table([option("a", "a", NOTHING, 1), option("b", "b", NOTHING, 1)], [], None, (), [("without", "a", "b")])
        told = judge_clear(table)
        self.assertEqual(told.lags, {})
        self.assertIn((FIRST_PLACE, FIRST_PLACE), told.dead)
        self.check_clear(table, 5)

    def test_options(self):
        self.check_clear(Table([option("a", "a"), option("b", "b", ("one", ANY))]), 5)
        self.check_clear(Table([option("a", "a", ("maybe", FIGURE)), option("b", "b", NOTHING, 0, 1)]), 4)
        self.check_clear(Table([option("a", "a", ("some", ANY, 2, 2))], [operand("f")]), 5)
        self.check_clear(Table([option("ab"), option("ac")], [], None, ("abbreviated",)), 5)
        self.check_clear(Table([option("ab"), option("ac", "", ("one", CHOSEN), 0, 1)], [], None, ("ends", "dashed")), 5)
        self.check_clear(Table([option("ab")], [operand("f", CHOSEN)], None, ("mixed", "guessed")), 5)

    def test_operands(self):
        self.check_clear(Table([], [operand("f", ANY, 1, 1), operand("g")]), 4)
        self.check_clear(Table([], [operand("f", FIGURE), operand("g", CHOSEN)]), 4)
        self.check_clear(Table([], [operand("f", CHOSEN), operand("g", ("chosen", "a"), 1, 1), operand("h", CHOSEN, 1, 1)]), 6)

    def test_commands(self):
        part = Table([option("b", "b")], [operand("f", FIGURE, 0, 1)])
        self.check_clear(Table([option("a", "a")], [], {"go": part}), 6)
        self.check_clear(Table([option("a", "a")], [operand("g", CHOSEN, 1, 2)], {"go": part}, ("far", "alone", "mixed")), 4)


class TablesThatAreNot(Judged):
    def test_values_or_operands(self):
        self.check_twice(DOUBLE, "-a", "")
        self.check_twice(Table([option("a", "", ("some", ANY, 1, None))], [operand("f", CHOSEN)]), "--a", "", "a")
        self.check_twice(Table([option("a", "a", ("some", CHOSEN, 0, 1))], [], {"b": Table([])}, ("alone",)), "-a", "b")

    def test_values_or_options(self):
        self.check_twice(Table([option("a", "a", ("some", ANY, 0, 1))], [], None, ("dashed",)), "-a", "-a")

    def test_operands_or_operands(self):
        self.check_twice(Table([], [operand("f"), operand("g")]), "")
        self.check_twice(Table([], [operand("f", ANY, 1, 2), operand("g", ANY, 0, 1), operand("h", CHOSEN)]), "", "")
        self.check_twice(Table([], [operand("f", CHOSEN), operand("g", ("chosen", "a", "b"), 1, 1), operand("h", CHOSEN, 0, 1)]), "a", "a")

    def test_operands_or_commands(self):
        self.check_twice(Table([], [operand("f", CHOSEN)], {"b": Table([])}, ("alone",)), "b")

    def test_operands_or_options(self):
        self.check_twice(Table([option("a", "a")], [operand("f")], None, ("dashed",)), "-a")

    def test_letters(self):
        self.check_twice(Table([option("a", "a", ("maybe", ANY))]), "-aa")
        self.check_twice(Table([option("a", "a", ("maybe", CHOSEN), 0, 1), option("o", "b")]), "-ab")

    def test_guessed(self):
        self.check_twice(Table([option("ab"), option("ac")], [], None, ("guessed",)), "--a")
        self.check_twice(Table([option("ab", "", ("one", CHOSEN)), option("ac", "", ("maybe", CHOSEN))], [], None, ("guessed",)), "--a=a")

    def test_far_beyond_the_first_words(self):
        table = Table([option("a", "a", NOTHING, 2, 2)], [operand("f", CHOSEN, 2, 2), operand("g"), operand("h")], None, ("mixed",))
        told = judge_clear(table)
        self.assertEqual(told.words, ("-aa", "a", "a", ""))
        self.assertTrue(told.shows(table))

    def test_many_words_before(self):
        table = Table([], [operand("f", ANY, 9, 9), operand("g", ANY, 9, 9), operand("h", CHOSEN, 0, 1)])
        self.assertTrue(judge_clear(table))
        table = Table([], [operand("f", ANY, 9, 9), operand("g", ANY, 8, 9), operand("h", CHOSEN, 0, 1)])
        told = judge_clear(table)
        self.assertEqual(told.words, ("",) * 17 + ("a",))
        self.assertTrue(told.shows(table))

    def test_readings_in_their_order(self):
        told = judge_clear(DOUBLE)
        self.assertEqual(told, Twice(("-a", ""), *readings(DOUBLE, ["-a", ""])))


class Papers(Judged):
    def test_pairs_of_a_flag(self):
        told = judge_clear(FLAG)
        done, again = (("all", 1),), place(counts=(("all", 1),))
        dash, dashes = place(part=("dash", "", "")), place(part=("dashes", "", ""))
        live = [place(), again, dash, dashes, place(counts=done, part=("letter", "all", ""))]
        live += [place(part=("long", "", text)) for text in ["a", "al", "all"]]
        self.assertEqual(told.lags, {(one, one): () for one in live})
        gone = [(*one[:5], done, one[6]) for one in [dash, dashes]]
        gone += [place(counts=done, part=("long", "", text)) for text in ["a", "al", "all"]]
        self.assertEqual(sorted(told.dead), sorted((one, one) for one in gone))

    def test_lags(self):
        table = Table([], [operand("f", ("chosen", "aa"), 0, 1), operand("g", ("chosen", "ab"), 0, 1)])
        lags = judge_clear(table).lags
        one, other = place(part=("operand", "f", "a")), place(group=1, part=("operand", "g", "a"))
        self.assertEqual(lags[place(), place()], ())
        self.assertEqual(lags[one, one], ())
        self.assertNotIn((one, other), lags)
        self.assertIn((one, other), judge_clear(table).dead)

    def test_a_lag_that_is_evened_out(self):
        table = Table([option("ab", "", NOTHING, 1, 1), option("ac", "", NOTHING, 1, 1)], [], None, ("guessed",))
        told = judge_clear(table)
        one, other = place(counts=(("ab", 1),)), place(counts=(("ac", 1),))
        self.assertEqual(told.lags[one, other], (("ab", ("came",), ()), ("ac", (), ("came",))))
        self.assertEqual(told.lags[one, one], ())
        both = place(counts=(("ab", 1), ("ac", 1)))
        self.assertEqual(told.lags[both, both], ())
        self.check_clear(table, 8)

    def test_a_pair_that_leads_to_no_end(self):
        table = Table([option("xy"), option("xz")], [], None, ("guessed",), [("some", ("xy",)), ("without", "xy", "xz")])
        told = judge_clear(table)
        one, other = place(counts=(("xy", 1),)), place(counts=(("xz", 1),))
        self.assertEqual(told.lags[one, one], ())
        self.assertIn((one, other), told.dead)
        self.check_clear(table, 6)

    def test_pairs_within_words(self):
        kind = ("chosen", "a", "b")
        table = Table([], [operand("f", kind), operand("g", ("chosen", "a"), 1, 1), operand("h", kind, 2, 2)])
        told = judge_clear(table)
        one, other = place(part=("operand", "f", "a")), place(group=1, part=("operand", "g", "a"))
        self.assertIn((one, other), told.dead)
        self.assertEqual(told.lags[one, one], ())
        self.check_clear(table, 8)


class Shown(unittest.TestCase):
    def setUp(self):
        guessed = [option("ab", "", NOTHING, 1, 1), option("ac", "", NOTHING, 1, 1)]
        self.table = Table(guessed, [operand("f", CHOSEN), operand("g", ("chosen", "a"), 1, 1)], None, ("guessed",))
        self.told = judge_clear(self.table)

    def check(self, lags, dead, holds=False):
        self.assertIs(Clear(lags, dead).shows(self.table), holds)

    def test_as_it_is(self):
        self.assertTrue(self.told)
        self.check(self.told.lags, self.told.dead, True)
        self.check(dict(reversed(self.told.lags.items())), tuple(reversed(self.told.dead)), True)

    def test_a_pair_left_out(self):
        lags, dead = self.told.lags, self.told.dead
        for at in [0, len(dead) // 2, len(dead) - 1]:
            self.check(lags, dead[:at] + dead[at + 1:])
        for pair in [*list(lags)[:2], list(lags)[-1]]:
            self.check({one: lag for one, lag in lags.items() if one != pair}, dead)

    def test_a_pair_put_in(self):
        lags, dead = self.told.lags, self.told.dead
        self.check(lags, (*dead, dead[0]))
        far = (place(group=2), place(group=2))
        for pair in [far, (FIRST_PLACE, FIRST_PLACE), dead[0], (dead[0],), None, "x", [dead[0]], ([],), (7, 8)]:
            self.check(lags, (*dead, pair))
            self.check(lags, (*dead[1:], pair), pair == dead[0])
        self.check({**lags, far: ()}, dead)

    def test_live_for_dead(self):
        lags, dead = self.told.lags, self.told.dead
        pair = list(lags)[-1]
        self.check({one: lag for one, lag in lags.items() if one != pair}, (*dead, pair))
        self.check({**lags, dead[0]: ()}, dead[1:])
        self.check({**lags, dead[0]: ()}, dead)

    def test_the_greater_place_first(self):
        lags, dead = self.told.lags, self.told.dead
        unlike = [pair for pair in dead if pair[0] != pair[1]][0]
        self.check(lags, tuple(pair if pair != unlike else pair[::-1] for pair in dead))
        unlike = [pair for pair in lags if pair[0] != pair[1]][0]
        self.check({pair if pair != unlike else pair[::-1]: lag for pair, lag in lags.items()}, dead)

    def test_a_lag_changed(self):
        lags, dead = self.told.lags, self.told.dead
        pair = [pair for pair, lag in lags.items() if lag][0]
        lag = lags[pair]
        tape, row, other = lag[0]
        changed = [(), lag[1:], lag[::-1], ((tape, other, row), *lag[1:]), ((tape, row + row, other + other), *lag[1:]), list(lag)]
        changed += [((tape, list(row), list(other)), *lag[1:]), (("x", row, other), *lag[1:]), ((tape, other, row),) + lag]
        for unlike in changed:
            self.check({**lags, pair: unlike}, dead)
        self.check({**lags, (FIRST_PLACE, FIRST_PLACE): lag}, dead)

    def test_another_table(self):
        other = Table([option("x", "x", NOTHING, 0, 2)], self.table.operands)
        self.assertIs(self.told.shows(other), False)
        self.assertIs(self.told.shows(DOUBLE), False)
        self.assertIs(judge_clear(DOUBLE).shows(self.table), False)

    def test_wholly_other_things(self):
        self.check({}, ())
        self.check(self.told.lags, list(self.told.dead))
        self.check({}, tuple(self.told.lags) + self.told.dead)

    def test_a_twice_changed(self):
        told = judge_clear(DOUBLE)
        one, other = told.one, told.other
        self.assertIs(Twice(told.words, other, one).shows(DOUBLE), True)
        self.assertIs(Twice(list(told.words), one, other).shows(DOUBLE), True)
        self.assertIs(Twice(told.words, one, one).shows(DOUBLE), False)
        self.assertIs(Twice(told.words, Reading(one.options, one.operands, ""), one).shows(DOUBLE), False)
        self.assertIs(Twice(("-a", "x"), one, other).shows(DOUBLE), False)
        self.assertIs(Twice(("-a",), one, other).shows(DOUBLE), False)
        self.assertIs(Twice((), one, other).shows(DOUBLE), False)
        for wrong in [
            Reading({"a": ((),)}, {"f": ()}, ""), Reading({"a": ((),), "b": ()}, {"f": ("",)}, ""),
            Reading({"a": ((),)}, {"f": ("",)}, "go"), Reading({"a": ((),)}, {}, ""), Reading({}, {"f": ("",)}, ""),
            Reading({"a": ((),)}, {"f": ("x",)}, ""), Reading({"a": ((), ())}, {"f": ("",)}, ""),
            Reading({"a": [()]}, {"f": ("",)}, ""), Reading({"a": ((),)}, {"f": [""]}, ""), Reading({"a": ([],)}, {"f": ("",)}, ""), Reading({"a": None}, {"f": ("",)}, ""),
            Reading({"a": ((7,),)}, {"f": ("",)}, ""), Reading({"a": (None,)}, {"f": ("",)}, ""), Reading({"a": ((),)}, {"f": None}, ""), Reading({"a": ((),)}, {"f": (7,)}, ""),
            Reading({"a": ((),)}, {"f": ("",)}, None), Reading({"a": ((),)}, {"f": ("",)}, []), None, 7, one.key(),
        ]:
            self.assertIs(Twice(told.words, wrong, other).shows(DOUBLE), False)
            self.assertIs(Twice(told.words, one, wrong).shows(DOUBLE), False)
        for words in [None, "-a", 7, ("-a", 7)]:
            self.assertIs(Twice(words, one, other).shows(DOUBLE), False)

    def test_a_twice_need_not_be_least(self):
        words = ["-a", "what else", ][:2]
        self.assertIs(Twice(tuple(words), *readings(DOUBLE, words)).shows(DOUBLE), True)
        table = Table([option("a", "", ("some", ANY, 0, None))], [operand("f")])
        many = ("--a", *["x"] * 30)
        one, other = [Reading({"a": (("x",) * had,)}, {"f": ("x",) * (30 - had)}, "") for had in [3, 29]]
        self.assertIs(Twice(many, one, other).shows(table), True)
        self.assertIs(Twice(many[:-1], one, other).shows(table), False)

    def test_what_is_given_is_not_kept(self):
        lags, words = {(FIRST_PLACE, FIRST_PLACE): ()}, ["a"]
        told, twice = Clear(lags, ()), Twice(words, None, None)
        lags.clear()
        words.append("b")
        self.assertEqual((told.lags, twice.words), ({(FIRST_PLACE, FIRST_PLACE): ()}, ("a",)))

    def test_equality(self):
        told = judge_clear(DOUBLE)
        self.assertTrue(told == judge_clear(DOUBLE))
        self.assertTrue(self.told == judge_clear(self.table))
        self.assertFalse(self.told == told)
        self.assertFalse(told == Twice(told.words, told.other, told.one))
        self.assertFalse(told == Twice((), told.one, told.other))
        self.assertFalse(self.told == Clear(self.told.lags, ()))
        self.assertFalse(self.told == Clear({}, self.told.dead))
        self.assertFalse(Twice((), 1, 2) == Twice((), 1, 3))
        self.assertFalse(Twice((), 1, 2) == Twice((), 3, 2))
        self.assertFalse(Twice((), 1, 2) == ((), 1, 2))
        self.assertIs(bool(Clear({}, ())), True)
        self.assertIs(bool(Twice((), None, None)), False)


class Sizes(unittest.TestCase):
    def test_at_the_measures_and_one_above(self):
        numbers = ("number", -99, 99)
        for table, number in [
            (Table([option("a", "", NOTHING, 3, 3), option("b", "", NOTHING, 9, 9)]), 120),
            (Table([option("a", "", NOTHING, 0, 3), option("b", "", ("some", ANY, 9, 9))]), 132),
            (Table([], [operand("f", numbers, 9, 9), operand("g", numbers, 9, 9), operand("h", ANY, 9, 9)]), 90),
            (large_table("go"), 120),
            (large_table("go", "up"), 123),
        ]:
            self.assertEqual(measures(table)[0], number)
            if number <= 120:
                self.assertTrue(judge_clear(table))
                continue
            told = judge_clear(FLAG)
            for made in [judge_clear, told.shows, Twice((), None, None).shows]:
                with self.assertRaises(TooLarge) as caught:
                    made(table)
                self.assertEqual(caught.exception.number, number)

    def test_signs_at_1200_and_above(self):
        numbers = ("number", -99, 99)
        self.assertEqual(measures(Table([], [operand("f", numbers)])), (3, 8 + 478))
        for last, number in [("ssss", 1200), ("sssss", 1201)]:
            takes = [numbers, numbers, ("chosen", *[sign * 8 for sign in "abcdefgh"])]
            options = [option(name, "", ("one", kind)) for name, kind in zip(["a" * 8, "b" * 4, "c" * 4], takes)]
            kinds = [*[("chosen", *[sign * 8 for sign in "ijklmnop"])] * 2, ("chosen", "q" * 8, "r" * 8, "t" * 8, last)]
            table = Table(options, [operand(f"f{at}", kind, 1, 1) for at, kind in enumerate(kinds)])
            self.assertEqual(measures(table)[1], number)
            if number == 1200:
                self.assertTrue(judge_clear(table))
            else:
                told = judge_clear(Table(options[:1]))
                for made in [judge_clear, told.shows, Twice((), None, None).shows]:
                    with self.assertRaises(TooLarge) as caught:
                        made(table)
                    self.assertEqual(caught.exception.number, 1201)

    def test_the_first_measure_comes_first(self):
        numbers = ("number", -99, 99)
        options = [option(name, "", ("some", numbers, 9, 9)) for name in ["a", "b", "c", "d"]]
        with self.assertRaises(TooLarge) as caught:
            judge_clear(Table(options))
        self.assertEqual(caught.exception.number, 123)


class Samples(Judged):
    def test_samples(self):
        judged = [0, 0, 0]
        for seed, table in tables(0, 60):
            if measures(table)[0] <= 120:
                told = judge_clear(table)
                self.assertTrue(told.shows(table), seed)
                if told:
                    judged[0] += 1
                    self.assertTrue(is_clear_paper(table, told.lags, told.dead), seed)
                    self.assertIsNone(least_twice(table, 3), seed)
                elif length_of(told.words) <= 4:
                    judged[1] += 1
                    words, keys = least_twice(table, 4)
                    self.assertEqual((told.words, [told.one.key(), told.other.key()]), (words, keys[:2]), seed)
                else:
                    judged[2] += 1
                    self.assertIsNone(least_twice(table, 3), seed)
        self.assertGreater(min(judged), 3)


if __name__ == "__main__":
    unittest.main()
