"""Readings, and all readings of a list: points [2] and [7] to [10]."""

import unittest

from switchyard.errors import BadWords, TooLarge
from switchyard.readings import Reading, readings
from switchyard.tables import Operand, Option, Table

ANY = ("any",)
NOTHING = ("nothing",)
NUMBER = ("number", -3, 12)
CHOSEN = ("chosen", "a", "b")


def option(name, letter="", takes=NOTHING, low=0, high=None):
    return Option(name, letter, takes, low, high)


def told(table, *words):
    """What comes, and which operands have words, in each reading; the command if there is one."""
    found = []
    for reading in readings(table, words):
        parts = {name: worth for name, worth in {**reading.options, **reading.operands}.items() if worth}
        if reading.command:
            parts["command"] = reading.command
        found.append(parts)
    return found


class ReadingClass(unittest.TestCase):
    def test_attributes_with_ascending_names(self):
        made = Reading({"b": (("x",),), "a": ((), ())}, {"z": ("1",), "c": ()}, "go")
        self.assertEqual(list(made.options.items()), [("a", ((), ())), ("b", (("x",),))])
        self.assertEqual(list(made.operands.items()), [("c", ()), ("z", ("1",))])
        self.assertEqual(made.command, "go")

    def test_key(self):
        made = Reading({"b": (("x", "y"),), "a": ((), ())}, {"z": ("1",), "c": ()}, "go")
        self.assertEqual(made.key(), ("go", (("a", ((), ())), ("b", (("x", "y"),))), (("c", ()), ("z", ("1",)))))
        self.assertEqual(Reading({}, {}, "").key(), ("", (), ()))

    def test_dicts_are_not_kept_and_not_changed(self):
        options, operands = {"b": (), "a": ((),)}, {"d": (), "c": ("x",)}
        made = Reading(options, operands, "")
        self.assertEqual((list(options), list(operands)), (["b", "a"], ["d", "c"]))
        options["b"] = ((),)
        operands.clear()
        self.assertEqual((made.options, made.operands), ({"a": ((),), "b": ()}, {"c": ("x",), "d": ()}))

    def test_equality(self):
        made = Reading({"a": ((),), "b": ()}, {"c": ("x",)}, "go")
        self.assertTrue(made == Reading({"b": (), "a": ((),)}, {"c": ("x",)}, "go"))
        self.assertFalse(made != Reading({"b": (), "a": ((),)}, {"c": ("x",)}, "go"))
        for other in [Reading({"a": (), "b": ()}, {"c": ("x",)}, "go"), Reading({"a": ((),)}, {"c": ("x",)}, "go"),
                      Reading({"a": ((),), "b": ()}, {"c": ()}, "go"), Reading({"a": ((),), "b": ()}, {}, "go"),
                      Reading({"a": ((),), "b": ()}, {"c": ("x",)}, ""), made.key(), None, "go", {}]:
            self.assertFalse(made == other)
            self.assertTrue(made != other)

    def test_a_reading_counts_as_true(self):
        self.assertTrue(Reading({}, {}, ""))


class WhatReadingsTell(unittest.TestCase):
    def test_all_names_of_the_tables_on_the_way(self):
        sub = Table([option("deep")], [Operand("from", ANY, 0)])
        other = Table([option("none")], [Operand("to", ANY, 0)])
        table = Table([option("top"), option("add")], [Operand("file", ANY, 0)], {"go": sub, "on": other}, ["alone"])
        self.assertEqual([one.key() for one in readings(table, [])], [("", (("add", ()), ("top", ())), (("file", ()),))])
        alone = readings(table, ["go"])
        self.assertEqual(alone[1].key(), ("go", (("add", ()), ("deep", ()), ("top", ())), (("file", ()), ("from", ()))))
        self.assertEqual(alone[0].key(), ("", (("add", ()), ("top", ())), (("file", ("go",)),)))
        self.assertEqual(list(alone[1].options), ["add", "deep", "top"])

    def test_each_reading_is_new(self):
        table = Table([option("add")])
        first = readings(table, ["--add"])
        first[0].options["add"] = ()
        first.append(1)
        self.assertEqual([one.options for one in readings(table, ["--add"])], [{"add": ((),)}])

    def test_the_empty_list(self):
        self.assertEqual(told(Table([])), [{}])
        self.assertEqual(told(Table([]), ""), [])


class Values(unittest.TestCase):
    def test_one_has_to_have_a_value(self):
        table = Table([option("out", "o", ("one", ANY)), option("add", "a")], [Operand("file", ANY, 0, 1)])
        self.assertEqual(told(table, "--out", "x"), [{"out": (("x",),)}])
        self.assertEqual(told(table, "-o", "x", "y"), [{"out": (("x",),), "file": ("y",)}])
        self.assertEqual(told(table, "--out"), [])
        self.assertEqual(told(table, "-o", "-a"), [])
        self.assertEqual(told(table, "--out", "--add"), [])
        self.assertEqual(told(table, "--out", "-"), [{"out": (("-",),)}])
        self.assertEqual(told(table, "--out", ""), [{"out": (("",),)}])

    def test_nothing_and_maybe_wait_for_no_value(self):
        table = Table([option("add", "a"), option("out", "o", ("maybe", ANY))])
        for word in ["--add", "-a", "--out", "-o"]:
            self.assertEqual(len(told(table, word)), 1)
            self.assertEqual(told(table, word, "x"), [])

    def test_some_with_few_and_many(self):
        table = Table([option("out", "o", ("some", ANY, 2, 3))], [Operand("file", ANY, 0, None)])
        self.assertEqual(told(table, "-o"), [])
        self.assertEqual(told(table, "-o", "1"), [])
        self.assertEqual(told(table, "-o", "1", "2"), [{"out": (("1", "2"),)}])
        self.assertEqual(told(table, "-o", "1", "2", "3"),
                         [{"out": (("1", "2"),), "file": ("3",)}, {"out": (("1", "2", "3"),)}])
        self.assertEqual(told(table, "-o", "1", "2", "3", "4"),
                         [{"out": (("1", "2"),), "file": ("3", "4")}, {"out": (("1", "2", "3"),), "file": ("4",)}])

    def test_some_never_takes_more_than_many(self):
        table = Table([option("out", "o", ("some", ANY, 0, 1))])
        self.assertEqual(told(table, "-o"), [{"out": ((),)}])
        self.assertEqual(told(table, "-o", "1"), [{"out": (("1",),)}])
        self.assertEqual(told(table, "-o", "1", "2"), [])
        nine = Table([option("out", "o", ("some", ANY, 9, 9))])
        self.assertEqual(len(told(nine, "-o", *"123456789")), 1)
        self.assertEqual(told(nine, "-o", *"12345678"), [])
        self.assertEqual(told(nine, "-o", *"1234567890"), [])

    def test_some_without_end(self):
        table = Table([option("out", "o", ("some", ANY, 1, None))])
        self.assertEqual(told(table, "-o", *"abcdefghijk"), [{"out": (tuple("abcdefghijk"),)}])
        self.assertEqual(told(table, "-o"), [])

    def test_a_word_behind_few_may_be_something_else_but_not_before(self):
        table = Table([option("out", "o", ("some", ANY, 1, None)), option("add", "a")], [], {"go": Table([])}, ["alone"])
        self.assertEqual(told(table, "-o", "x", "-a"), [{"out": (("x",),), "add": ((),)}])
        self.assertEqual(told(table, "-o", "-a"), [])
        self.assertEqual(told(table, "-o", "go"), [{"out": (("go",),)}])
        self.assertEqual(told(table, "-o", "x", "go"), [{"out": (("x", "go"),)}, {"out": (("x",),), "command": "go"}])

    def test_what_waited_waits_no_longer_behind_another_thing(self):
        some = option("out", "o", ("some", ANY, 0, None))
        self.assertEqual(told(Table([some, option("add", "a")]), "-o", "x", "-a", "y"), [])
        self.assertEqual(told(Table([some], [Operand("file", ("chosen", "f"))], None, ["mixed"]), "-o", "f", "x"), [])
        self.assertEqual(told(Table([some], [], None, ["ends"]), "-o", "--", "x"), [])
        self.assertEqual(told(Table([some], [], {"go": Table([])}), "-o", "go", "x"), [])
        self.assertEqual(told(Table([some]), "-o", "x", "-o", "y"), [{"out": (("x",), ("y",))}])

    def test_the_type_of_values(self):
        table = Table([option("out", "o", ("one", NUMBER)), option("in", "i", ("some", CHOSEN, 0, None))])
        for word in ["-3", "12", "0", "-1"]:
            self.assertEqual(told(table, "-o", word), [{"out": ((word,),)}])
        for word in ["-4", "13", "-0", "012", "+1", "", "a", "-", "--"]:
            self.assertEqual(told(table, "-o", word), [])
        self.assertEqual(told(table, "-i", "a", "b", "a"), [{"in": (("a", "b", "a"),)}])
        self.assertEqual(told(table, "-i", "a", "c"), [])

    def test_dash_words_as_values(self):
        def table(*traits):
            return Table([option("out", "o", ("one", ANY)), option("many", "m", ("some", ANY, 0, None))], [], None, traits)
        for word in ["-x", "--", "--x", "-o", "--out", "-1", "---"]:
            self.assertEqual(told(table(), "-o", word), [], word)
            self.assertEqual(told(table("ends"), "-o", word), [], word)
            self.assertEqual(told(table("dashed"), "-o", word), [{"out": ((word,),)}], word)
            if word != "--":
                self.assertEqual(told(table("dashed", "ends"), "-o", word), [{"out": ((word,),)}], word)
        self.assertEqual(told(table("dashed", "ends"), "-o", "--"), [])
        self.assertEqual(told(table("dashed", "ends"), "-m", "--"), [{"many": ((),)}])
        self.assertEqual(told(table("dashed"), "-m", "--"), [{"many": (("--",),)}])
        self.assertEqual(told(table("dashed"), "-m", "-m"), [{"many": ((), ())}, {"many": (("-m",),)}])
        self.assertEqual(told(table("dashed", "ends"), "-o", "---"), [{"out": (("---",),)}])

    def test_numbers_below_zero_are_values_and_operands_without_dashed(self):
        table = Table([option("one", "", ("one", NUMBER)), option("any", "n", ("one", ANY))],
                      [Operand("file", NUMBER, 0, None)], None, ["mixed"])
        self.assertEqual(told(table, "--one", "-1"), [{"one": (("-1",),)}])
        self.assertEqual(told(table, "-2", "-3"), [{"file": ("-2", "-3")}])
        self.assertEqual(told(table, "--any", "-1"), [])

    def test_dashed_of_the_current_table_counts(self):
        out = option("out", "o", ("one", ANY))
        self.assertEqual(told(Table([out], [], {"go": Table([])}, ["far", "dashed"]), "go", "-o", "-x"), [])
        inner = Table([], [], None, ["dashed"])
        self.assertEqual(told(Table([out], [], {"go": inner}, ["far"]), "go", "-o", "-x"),
                         [{"out": (("-x",),), "command": "go"}])
        self.assertEqual(told(Table([out], [], {"go": inner}, ["far"]), "-o", "-x", "go"), [])

    def test_attached_values_end_the_waiting(self):
        table = Table([option("out", "o", ("one", ANY))], [Operand("file", ANY, 0, 1)])
        self.assertEqual(told(table, "--out=x", "y"), [{"out": (("x",),), "file": ("y",)}])
        self.assertEqual(told(table, "-ox", "y"), [{"out": (("x",),), "file": ("y",)}])


class Ends(unittest.TestCase):
    def test_ends(self):
        table = Table([option("add", "a")], [Operand("file", ANY, 0, None)], None, ["ends", "mixed"])
        self.assertEqual(told(table, "--"), [{}])
        self.assertEqual(told(table, "--", "-a", "--add"), [{"file": ("-a", "--add")}])
        self.assertEqual(told(table, "--", "--"), [{"file": ("--",)}])
        self.assertEqual(told(table, "-a", "--", "-a"), [{"add": ((),), "file": ("-a",)}])
        self.assertEqual(told(table, "x", "--", "-a"), [{"file": ("x", "-a")}])

    def test_without_ends(self):
        table = Table([option("add", "a")], [Operand("file", ANY, 0, None)], None, ["mixed"])
        self.assertEqual(told(table, "--"), [])
        self.assertEqual(told(table, "x", "--"), [])
        dashed = Table([option("add", "a")], [Operand("file", ANY, 0, None)], None, ["mixed", "dashed"])
        self.assertEqual(told(dashed, "--", "-a"), [{"file": ("--", "-a")}, {"add": ((),), "file": ("--",)}])

    def test_ends_with_operands_of_dashes(self):
        table = Table([], [Operand("file", ANY, 0, 1)], None, ["ends", "dashed"])
        self.assertEqual(told(table, "--"), [{}])
        self.assertEqual(told(table, "-"), [{"file": ("-",)}])
        self.assertEqual(told(table, "---"), [{"file": ("---",)}])

    def test_ends_is_no_end_behind_an_operand_that_put_options_over(self):
        table = Table([option("add", "a")], [Operand("file", ANY, 0, None)], None, ["ends"])
        self.assertEqual(told(table, "x", "--", "y"), [{"file": ("x", "--", "y")}])

    def test_ends_holds_in_a_command_too(self):
        sub = Table([option("deep", "d")], [Operand("file", ANY, 0, None)])
        table = Table([option("add", "a")], [], {"go": sub}, ["ends", "far"])
        self.assertEqual(told(table, "--", "go", "-d", "-a", "--deep"),
                         [{"file": ("-d", "-a", "--deep"), "command": "go"}])
        self.assertEqual(told(table, "go", "--", "-d"), [])

    def test_ends_holds_behind_operands_and_a_command(self):
        sub = Table([option("deep", "d")], [Operand("from", ANY, 0, None)])
        table = Table([], [Operand("file", NUMBER, 0, None)], {"go": sub}, ["ends"])
        self.assertEqual(told(table, "--", "1", "go", "-d", "x", "-d"),
                         [{"file": ("1",), "from": ("-d", "x", "-d"), "command": "go"}])
        self.assertEqual(told(table, "1", "go", "-d", "x", "-d"),
                         [{"file": ("1",), "deep": ((),), "from": ("x", "-d"), "command": "go"}])

    def test_ends_of_a_command(self):
        sub = Table([option("deep", "d")], [Operand("file", ANY, 0, None)], None, ["ends"])
        table = Table([option("add", "a")], [], {"go": sub})
        self.assertEqual(told(table, "go", "--", "-d"), [{"file": ("-d",), "command": "go"}])
        self.assertEqual(told(table, "--", "go"), [])


class LongOptions(unittest.TestCase):
    def test_whole_names(self):
        table = Table([option("add"), option("adder", "", ("one", ANY)), option("b")])
        self.assertEqual(told(table, "--add"), [{"add": ((),)}])
        self.assertEqual(told(table, "--b", "--add"), [{"add": ((),), "b": ((),)}])
        for word in ["--ad", "--Add", "-add", "add", "--add ", "---add", "--", "--x", "--bb"]:
            self.assertEqual(told(table, word), [], word)

    def test_attached_values(self):
        table = Table([option("no"), option("one", "", ("one", ANY)), option("maybe", "", ("maybe", NUMBER)),
                       option("some", "", ("some", ANY, 0, None))])
        for value in ["", "x", "-x", "--", "a=b", "=", "--one=x"]:
            self.assertEqual(told(table, "--one=" + value), [{"one": ((value,),)}])
        self.assertEqual(told(table, "--maybe=-3"), [{"maybe": (("-3",),)}])
        self.assertEqual(told(table, "--maybe"), [{"maybe": ((),)}])
        for word in ["--maybe=", "--maybe=-4", "--no=", "--no=x", "--some=", "--some=x", "--=x", "--one:x", "--on=x"]:
            self.assertEqual(told(table, word), [], word)

    def test_abbreviated(self):
        table = Table([option("add"), option("adder"), option("bend", "", ("one", ANY)), option("best")],
                      [], None, ["abbreviated"])
        self.assertEqual(told(table, "--adde"), [{"adder": ((),)}])
        self.assertEqual(told(table, "--add"), [{"add": ((),)}])
        self.assertEqual(told(table, "--ben=x"), [{"bend": (("x",),)}])
        self.assertEqual(told(table, "--ben", "x"), [{"bend": (("x",),)}])
        for word in ["--a", "--ad", "--be", "--=x", "--", "--bende", "--c"]:
            self.assertEqual(told(table, word), [], word)

    def test_abbreviated_asks_for_one_known_option_even_if_another_one_cannot_come(self):
        table = Table([option("verify", "", NOTHING, 0, 1), option("version", "", ("one", ANY))], [], None,
                      ["abbreviated"])
        self.assertEqual(told(table, "--verify", "--ver=x"), [])
        self.assertEqual(told(table, "--v=x"), [])
        self.assertEqual(told(table, "--veri", "--vers=x"), [{"verify": ((),), "version": (("x",),)}])

    def test_guessed(self):
        table = Table([option("add"), option("adder"), option("b", "", ("one", ANY)), option("bb", "", ("maybe", CHOSEN)),
                       option("bbb", "", ("some", ANY, 0, None))], [], None, ["guessed"])
        self.assertEqual(told(table, "--ad"), [{"adder": ((),)}, {"add": ((),)}])
        self.assertEqual(told(table, "--add"), [{"add": ((),)}])
        self.assertEqual(told(table, "--b=a"), [{"b": (("a",),)}])
        self.assertEqual(told(table, "--bb=a"), [{"bb": (("a",),)}])
        self.assertEqual(told(table, "--bb=c"), [])
        self.assertEqual(told(table, "--=x"), [])
        self.assertEqual(told(table, "--"), [])

    def test_guessed_takes_those_that_can_come_with_what_is_attached(self):
        table = Table([option("aa", "", ("one", NUMBER)), option("ab", "", ("maybe", CHOSEN)), option("ac", "", NOTHING, 0, 1),
                       option("ad", "", ("some", ANY, 1, 1))], [], None, ["guessed"])
        self.assertEqual(told(table, "--a=a"), [{"ab": (("a",),)}])
        self.assertEqual(told(table, "--a=3"), [{"aa": (("3",),)}])
        self.assertEqual(told(table, "--a", "3"), [{"ad": (("3",),)}, {"aa": (("3",),)}])
        self.assertEqual(told(table, "--a"), [{"ac": ((),)}, {"ab": ((),)}])
        self.assertEqual(told(table, "--ac", "--a"), [{"ab": ((),), "ac": ((),)}])

    def test_neither_abbreviated_nor_guessed(self):
        table = Table([option("add")])
        for word in ["--a", "--ad"]:
            self.assertEqual(told(table, word), [])

    def test_traits_of_the_current_table_count(self):
        inner, outer = Table([option("deep")], [], None, ["abbreviated"]), option("top")
        self.assertEqual(told(Table([outer], [], {"go": inner}), "--to", "go"), [])
        self.assertEqual(told(Table([outer], [], {"go": inner}), "go", "--de"), [{"deep": ((),), "command": "go"}])
        self.assertEqual(told(Table([outer], [], {"go": inner}, ["far"]), "go", "--to"),
                         [{"top": ((),), "command": "go"}])
        plain = Table([option("deep")])
        self.assertEqual(told(Table([outer], [], {"go": plain}, ["far", "guessed"]), "go", "--to"), [])

    def test_known_options(self):
        inner = Table([option("deep", "d"), option("tape", "p")])
        near = Table([option("top", "t")], [], {"go": inner, "on": Table([option("else", "e")])})
        far = Table(near.options, [], near.commands, ["far"])
        self.assertEqual(told(near, "--top", "go", "--deep"), [{"top": ((),), "deep": ((),), "command": "go"}])
        for words in [("--deep", "go"), ("-d", "go"), ("go", "--else"), ("go", "-e")]:
            self.assertEqual(told(near, *words), [])
            self.assertEqual(told(far, *words), [])
        for word in ["--top", "-t"]:
            self.assertEqual(told(near, "go", word), [])
            self.assertEqual(told(far, "go", word), [{"top": ((),), "command": "go"}])
            self.assertEqual(told(far, word, "go", word), [{"top": ((), ()), "command": "go"}])
        short = Table([option("top")], [], {"go": Table([option("tape")], [], None, ["abbreviated"])}, ["far"])
        self.assertEqual(told(short, "go", "--t"), [])
        near_short = Table([option("top")], [], {"go": Table([option("tape")], [], None, ["abbreviated"])})
        self.assertEqual(told(near_short, "go", "--t"), [{"tape": ((),), "command": "go"}])


class Letters(unittest.TestCase):
    table = Table([option("add", "a"), option("big", "b"), option("out", "o", ("one", ANY)),
                   option("level", "l", ("maybe", NUMBER)), option("some", "s", ("some", ANY, 0, 1)), option("none")])

    def test_letters_together(self):
        self.assertEqual(told(self.table, "-a"), [{"add": ((),)}])
        self.assertEqual(told(self.table, "-aba"), [{"add": ((), ()), "big": ((),)}])
        for word in ["-", "-x", "-ax", "-a-", "-a ", "-A", "--a", "-a=", "a", "-n"]:
            self.assertEqual(told(self.table, word), [], word)

    def test_the_rest_behind_one_is_its_value(self):
        self.assertEqual(told(self.table, "-oa"), [{"out": (("a",),)}])
        self.assertEqual(told(self.table, "-ao-x"), [{"add": ((),), "out": (("-x",),)}])
        self.assertEqual(told(self.table, "-o=x"), [{"out": (("=x",),)}])
        self.assertEqual(told(self.table, "-o--"), [{"out": (("--",),)}])
        self.assertEqual(told(self.table, "-abo", "x"), [{"add": ((),), "big": ((),), "out": (("x",),)}])
        self.assertEqual(told(self.table, "-abo"), [])
        number = Table([option("out", "o", ("one", NUMBER))])
        self.assertEqual(told(number, "-o-3"), [{"out": (("-3",),)}])
        self.assertEqual(told(number, "-o-4"), [])
        self.assertEqual(told(number, "-o03"), [])

    def test_the_rest_behind_maybe_is_its_value_or_further_letters(self):
        self.assertEqual(told(self.table, "-l3"), [{"level": (("3",),)}])
        self.assertEqual(told(self.table, "-la"), [{"add": ((),), "level": ((),)}])
        self.assertEqual(told(self.table, "-l"), [{"level": ((),)}])
        self.assertEqual(told(self.table, "-ll-1"), [{"level": ((), ("-1",))}])
        self.assertEqual(told(self.table, "-l13"), [])
        self.assertEqual(told(self.table, "-l3a"), [])
        self.assertEqual(told(self.table, "-lx"), [])
        either = Table([option("out", "o", ("maybe", ANY)), option("all", "a")])
        self.assertEqual(told(either, "-oa"), [{"out": (("a",),)}, {"all": ((),), "out": ((),)}])
        self.assertEqual(told(either, "-oao"), [{"out": (("ao",),)}, {"all": ((),), "out": ((), ())}])
        self.assertEqual(told(either, "-oo"), [{"out": ((), ())}, {"out": (("o",),)}])

    def test_nothing_may_stand_behind_some(self):
        self.assertEqual(told(self.table, "-s"), [{"some": ((),)}])
        self.assertEqual(told(self.table, "-as", "x"), [{"add": ((),), "some": (("x",),)}])
        self.assertEqual(told(self.table, "-sx"), [])
        self.assertEqual(told(self.table, "-sa"), [])


class Operands(unittest.TestCase):
    def test_one_group(self):
        table = Table([], [Operand("file", ANY, 1, 2)])
        self.assertEqual(told(table), [])
        self.assertEqual(told(table, "x"), [{"file": ("x",)}])
        self.assertEqual(told(table, "x", "y"), [{"file": ("x", "y")}])
        self.assertEqual(told(table, "x", "y", "z"), [])

    def test_groups_in_turn(self):
        table = Table([], [Operand("one", ANY, 1, 2), Operand("two", ANY, 0, 1), Operand("three", ANY, 1, None)])
        self.assertEqual(told(table, "x"), [])
        self.assertEqual(told(table, "x", "y"), [{"one": ("x",), "three": ("y",)}])
        self.assertEqual(told(table, "x", "y", "z"), [
            {"one": ("x",), "three": ("y", "z")},
            {"one": ("x",), "two": ("y",), "three": ("z",)},
            {"one": ("x", "y"), "three": ("z",)}])

    def test_a_later_group_only_if_all_before_have_their_few(self):
        table = Table([], [Operand("one", NUMBER, 2, 2), Operand("two", CHOSEN, 1, 1), Operand("three", ANY, 0, 1)])
        self.assertEqual(told(table, "1", "a"), [])
        self.assertEqual(told(table, "1", "2", "a"), [{"one": ("1", "2"), "two": ("a",)}])
        self.assertEqual(told(table, "1", "2", "x"), [])
        self.assertEqual(told(table, "1", "2", "a", "x"), [{"one": ("1", "2"), "two": ("a",), "three": ("x",)}])
        self.assertEqual(told(table, "1", "2", "a", "1"), [{"one": ("1", "2"), "two": ("a",), "three": ("1",)}])

    def test_no_way_back_to_an_earlier_group(self):
        table = Table([], [Operand("one", NUMBER, 0, None), Operand("two", CHOSEN, 0, None)])
        self.assertEqual(told(table, "1", "a"), [{"one": ("1",), "two": ("a",)}])
        self.assertEqual(told(table, "1", "a", "1"), [])

    def test_a_group_that_was_begun_again_has_no_words_yet(self):
        table = Table([], [Operand("one", ANY, 1, 1), Operand("two", ANY, 2, 2)])
        self.assertEqual(told(table, "x", "y"), [])
        self.assertEqual(told(table, "x", "y", "z"), [{"one": ("x",), "two": ("y", "z")}])

    def test_nine_words_and_no_end(self):
        self.assertEqual(len(told(Table([], [Operand("file", ANY, 9, 9)]), *"123456789")), 1)
        self.assertEqual(told(Table([], [Operand("file", ANY, 9, 9)]), *"1234567890"), [])
        self.assertEqual(told(Table([], [Operand("file", ANY, 9, 9)]), *"12345678"), [])
        self.assertEqual(len(told(Table([], [Operand("file", ANY, 9, None)]), *"1234567890ab")), 1)

    def test_options_are_over_behind_an_operand(self):
        table = Table([option("add", "a")], [Operand("file", ANY, 0, None)])
        self.assertEqual(told(table, "-a", "x", "-a"), [{"add": ((),), "file": ("x", "-a")}])
        self.assertEqual(told(table, "x", "--add", "--"), [{"file": ("x", "--add", "--")}])
        self.assertEqual(told(table, "-x"), [])

    def test_mixed(self):
        table = Table([option("add", "a")], [Operand("file", ANY, 0, None)], None, ["mixed"])
        self.assertEqual(told(table, "x", "-a", "y"), [{"add": ((),), "file": ("x", "y")}])
        self.assertEqual(told(table, "x", "-b"), [])
        self.assertEqual(told(table, "x", "-"), [{"file": ("x", "-")}])

    def test_dash_words_as_operands(self):
        table = Table([option("add", "a")], [Operand("file", ANY, 0, 1)], None, ["dashed"])
        self.assertEqual(told(table, "-a"), [{"file": ("-a",)}, {"add": ((),)}])
        self.assertEqual(told(table, "--"), [{"file": ("--",)}])
        self.assertEqual(told(table, "-x"), [{"file": ("-x",)}])

    def test_the_type_of_operands(self):
        table = Table([], [Operand("file", NUMBER, 0, None)])
        self.assertEqual(told(table, "-3", "12"), [{"file": ("-3", "12")}])
        for word in ["-4", "13", "", "-", "01", "a"]:
            self.assertEqual(told(table, word), [])
            self.assertEqual(told(table, "1", word), [])


class Commands(unittest.TestCase):
    def test_a_command_has_to_come(self):
        table = Table([], [], {"go": Table([]), "on": Table([])})
        self.assertEqual(told(table), [])
        self.assertEqual(told(table, "go"), [{"command": "go"}])
        self.assertEqual(told(table, "on"), [{"command": "on"}])
        for words in [("go", "on"), ("go", "go"), ("up",), ("",), ("g",), ("goo",)]:
            self.assertEqual(told(table, *words), [])

    def test_alone(self):
        table = Table([option("add", "a")], [Operand("file", NUMBER, 0, 1)], {"go": Table([])}, ["alone"])
        self.assertEqual(told(table), [{}])
        self.assertEqual(told(table, "-a", "3"), [{"add": ((),), "file": ("3",)}])
        self.assertEqual(told(table, "go"), [{"command": "go"}])

    def test_operands_ahead_need_their_few(self):
        table = Table([], [Operand("one", NUMBER, 1, 2), Operand("two", NUMBER, 0, 1)], {"go": Table([])})
        self.assertEqual(told(table, "go"), [])
        self.assertEqual(told(table, "1", "go"), [{"one": ("1",), "command": "go"}])
        needed = Table([], [Operand("one", NUMBER, 0, 1), Operand("two", CHOSEN, 1, 1)], {"go": Table([])})
        self.assertEqual(told(needed, "1", "go"), [])
        self.assertEqual(told(needed, "a", "go"), [{"two": ("a",), "command": "go"}])

    def test_a_word_may_be_a_command_or_an_operand(self):
        table = Table([], [Operand("file", ANY, 0, None)], {"go": Table([])})
        self.assertEqual(told(table, "x", "go"), [{"file": ("x",), "command": "go"}])
        self.assertEqual(told(table, "go", "go"), [{"file": ("go",), "command": "go"}])

    def test_operands_of_the_command_are_in_turn_behind_it(self):
        sub = Table([], [Operand("from", ANY, 1, 1)])
        table = Table([], [Operand("file", ANY, 0, None)], {"go": sub})
        self.assertEqual(told(table, "x", "go"), [])
        self.assertEqual(told(table, "x", "go", "y"), [{"file": ("x",), "from": ("y",), "command": "go"}])
        self.assertEqual(told(table, "x", "go", "y", "z"), [])

    def test_options_are_not_over_behind_a_command(self):
        sub = Table([option("deep", "d")], [Operand("from", ANY, 0, None)])
        table = Table([option("add", "a")], [Operand("file", NUMBER, 0, None)], {"go": sub})
        self.assertEqual(told(table, "1", "go", "-d", "x", "-d"),
                         [{"file": ("1",), "deep": ((),), "from": ("x", "-d"), "command": "go"}])
        self.assertEqual(told(table, "go", "-d", "x"), [{"deep": ((),), "from": ("x",), "command": "go"}])

    def test_mixed_of_the_current_table_counts(self):
        def table(outer, inner):
            sub = Table([option("deep", "d")], [Operand("from", CHOSEN, 0, None)], None, inner)
            return Table([option("add", "a")], [Operand("file", NUMBER, 0, None)], {"go": sub}, outer)
        self.assertEqual(told(table(["mixed"], []), "1", "-a", "go"), [{"file": ("1",), "add": ((),), "command": "go"}])
        self.assertEqual(told(table([], ["mixed"]), "1", "-a", "go"), [])
        self.assertEqual(told(table(["mixed"], []), "go", "a", "-d"), [])
        self.assertEqual(told(table([], ["mixed"]), "go", "a", "-d"),
                         [{"from": ("a",), "deep": ((),), "command": "go"}])

    def test_commands_in_command_tables_are_no_commands(self):
        table = Table([], [], {"go": Table([], [Operand("file", ANY, 0, None)])})
        self.assertEqual(told(table, "go", "go"), [{"file": ("go",), "command": "go"}])


class HowOften(unittest.TestCase):
    def test_low_and_high(self):
        table = Table([option("add", "a", NOTHING, 1, 3)])
        self.assertEqual(told(table), [])
        self.assertEqual(told(table, "-a"), [{"add": ((),)}])
        self.assertEqual(told(table, "-aa", "--add"), [{"add": ((), (), ())}])
        self.assertEqual(told(table, "-aaa", "--add"), [])
        self.assertEqual(told(table, "-aaaa"), [])
        self.assertEqual(told(Table([option("add", "a", NOTHING, 2)]), "-a"), [])
        self.assertEqual(told(Table([option("add", "a", NOTHING, 2)]), "-aaaaa"), [{"add": ((),) * 5}])
        self.assertEqual(told(Table([option("add", "a", NOTHING, 9, 9)]), "-" + "a" * 9), [{"add": ((),) * 9}])
        self.assertEqual(told(Table([option("add", "a", NOTHING, 9, 9)]), "-" + "a" * 10), [])
        self.assertEqual(told(Table([option("add", "a", NOTHING, 9, 9)]), "-" + "a" * 8), [])

    def test_high_counts_in_each_way_to_come(self):
        table = Table([option("out", "o", ("maybe", ANY), 0, 1)], [], None, ["guessed"])
        for word in ["--out", "--o", "--out=x", "--o=x", "-o", "-ox"]:
            self.assertEqual(len(told(table, word)), 1)
            for other in ["--out", "--o", "--out=x", "--o=x", "-o", "-ox"]:
                self.assertEqual(told(table, word, other), [])
        self.assertEqual(told(table, "-oo"), [{"out": (("o",),)}])

    def test_options_of_the_table_count_behind_a_command_too(self):
        sub = Table([option("deep", "d", NOTHING, 1)])
        table = Table([option("add", "a", NOTHING, 1, 1)], [], {"go": sub}, ["far", "alone"])
        self.assertEqual(told(table, "go", "-da"), [{"add": ((),), "deep": ((),), "command": "go"}])
        self.assertEqual(told(table, "-a", "go", "-d"), [{"add": ((),), "deep": ((),), "command": "go"}])
        self.assertEqual(told(table, "-a", "go", "-da"), [])
        self.assertEqual(told(table, "go", "-d"), [])
        self.assertEqual(told(table, "-a", "go"), [])
        self.assertEqual(told(table, "-a"), [{"add": ((),)}])


class Conditions(unittest.TestCase):
    def table(self, *conditions):
        return Table([option("add", "a"), option("big", "b", NOTHING, 0, 2), option("cut", "c")], [], None, [], conditions)

    def test_needs(self):
        table = self.table(("needs", "add", "big"))
        for words, many in [((), 1), (("-a",), 0), (("-b",), 1), (("-ab",), 1), (("-ba",), 1), (("-aa",), 0), (("-c",), 1),
                            (("-ac",), 0), (("-bb",), 1), (("-aabb",), 1)]:
            self.assertEqual(len(told(table, *words)), many, words)

    def test_without(self):
        table = self.table(("without", "add", "big"))
        for words, many in [((), 1), (("-a",), 1), (("-b",), 1), (("-ab",), 0), (("-ba",), 0), (("-aac",), 1), (("-bbca",), 0)]:
            self.assertEqual(len(told(table, *words)), many, words)

    def test_some(self):
        table = self.table(("some", ("add", "cut")))
        for words, many in [((), 0), (("-a",), 1), (("-b",), 0), (("-c",), 1), (("-ac",), 1), (("-bc",), 1)]:
            self.assertEqual(len(told(table, *words)), many, words)

    def test_all_of_them_hold(self):
        table = self.table(("some", ("add", "big")), ("without", "add", "big"), ("needs", "big", "cut"))
        for words, many in [((), 0), (("-a",), 1), (("-b",), 0), (("-bc",), 1), (("-abc",), 0), (("-c",), 0)]:
            self.assertEqual(len(told(table, *words)), many, words)

    def test_conditions_of_the_tables_on_the_way(self):
        sub = Table([option("deep", "d"), option("else", "e")], [], None, [], [("some", ("deep", "else"))])
        table = Table([option("add", "a"), option("big", "b")], [], {"go": sub, "on": Table([])}, ["alone", "far"],
                      [("needs", "add", "big")])
        for words, many in [((), 1), (("-a",), 0), (("go",), 0), (("on",), 1), (("go", "-d"), 1), (("go", "-da"), 0),
                            (("-a", "go", "-db"), 1), (("-a", "on"), 0), (("-a", "on", "-b"), 1)]:
            self.assertEqual(len(told(table, *words)), many, words)


class Lists(unittest.TestCase):
    def test_ascending_by_keys_and_no_reading_twice(self):
        table = Table([option("b", "", ("some", ANY, 0, None)), option("a", "", ("some", ANY, 0, None))],
                      [Operand("file", ANY, 0, None)], None, ["mixed"])
        found = readings(table, ["--b", "x", "y", "--a", "z"])
        keys = [one.key() for one in found]
        self.assertEqual(keys, sorted(keys))
        self.assertEqual(len(keys), 6)
        self.assertEqual(len(set(keys)), 6)
        self.assertEqual(keys[0], ("", (("a", ((),)), ("b", ((),))), (("file", ("x", "y", "z")),)))
        self.assertIs(type(found), list)

    def test_the_command_comes_first_in_keys(self):
        table = Table([option("z")], [Operand("file", ANY, 0, None)], {"a": Table([option("y")])}, ["alone"])
        self.assertEqual([one.command for one in readings(table, ["x", "a"])], ["", "a"])

    def test_ways_that_tell_the_same_are_one_reading(self):
        table = Table([option("aa"), option("ab")], [], None, ["guessed"])
        self.assertEqual(told(table, "--a", "--a"), [{"ab": ((), ())}, {"aa": ((),), "ab": ((),)}, {"aa": ((), ())}])

    def test_many_ways_are_no_hindrance(self):
        table = Table([option("a" + name, "", ("one", ANY)) for name in "abcdefgh"], [], None, ["guessed"])
        self.assertEqual(readings(table, ["--a=x"] * 11 + ["y"]), [])
        table = Table([option("a" + name) for name in "abcdef"], [], None, ["guessed"])
        self.assertEqual(len(readings(table, ["--a"] * 12)), 6188)

    def test_lists_and_tuples(self):
        table = Table([option("add")])
        self.assertEqual(readings(table, ["--add"]), readings(table, ("--add",)))
        words = ["--add", "--add"]
        readings(table, words)
        self.assertEqual(words, ["--add", "--add"])

    def test_bad_words(self):
        table = Table([option("add")])
        for words in [None, "", "--add", 3, {}, {"--add": 1}, {"--add"}, b"", iter(["--add"])]:
            with self.assertRaises(BadWords) as caught:
                readings(table, words)
            self.assertIsNone(caught.exception.number)
        for words, number in [([None], 0), (["--add", 1, None], 1), (("", "x", b"x"), 2), ([["--add"]], 0),
                              (["x"] * 12 + [True], 12), (["x"] * 20 + [("x",)] + ["x"], 20)]:
            with self.assertRaises(BadWords) as caught:
                readings(table, words)
            self.assertIs(type(caught.exception.number), int)
            self.assertEqual(caught.exception.number, number)

    def test_too_large(self):
        table = Table([option("add")])
        self.assertEqual(len(readings(table, ["--add"] * 12)), 1)
        self.assertEqual(readings(table, ["x"] * 12), [])
        for number in [13, 14, 100]:
            with self.assertRaises(TooLarge) as caught:
                readings(table, ["--add"] * number)
            self.assertEqual(caught.exception.number, number)


if __name__ == "__main__":
    unittest.main()
