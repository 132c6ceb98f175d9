"""Why the reader refuses: point [18]."""

import unittest

from switchyard.errors import BadWords
from switchyard.reader import read
from switchyard.reasons import reasons
from switchyard.tables import Operand, Option, Table
from tests.samples import sample_lists, tables

ANY = ("any",)
NOTHING = ("nothing",)
NUMBER = ("number", -3, 12)
CHOSEN = ("chosen", "a", "b")


def option(name, letter="", takes=NOTHING, low=0, high=None):
    return Option(name, letter, takes, low, high)


class Reasons(unittest.TestCase):
    def check(self, table, words, *pairs):
        told = reasons(table, words)
        self.assertEqual(told, pairs, words)
        self.assertIsInstance(told, tuple)
        self.assertEqual(told == (), bool(read(table, words)), words)

    def test_lists_that_are_read(self):
        table = Table([option("all", "a"), option("out", "o", ("one", ANY))], [Operand("file", ANY, 0, 1)])
        for words in [[], ["-a"], ("-ox", "y"), ["--all", "--out=x"], ["-o", "x", "-aa"]]:
            self.check(table, words)

    def test_wrong_words(self):
        for words, number in [("a", None), (None, None), ({"a": 1}, None), ([7], 0), (["a", "b", None], 2)]:
            with self.assertRaises(BadWords) as caught:
                reasons(Table([]), words)
            self.assertEqual(caught.exception.number, number, words)


class AtTheEnd(Reasons):
    def test_an_option_must_have_a_word(self):
        table = Table([option("out", "o", ("one", ANY)), option("two", "t", ("some", ANY, 2, None))])
        self.check(table, ["-o"], ("word", "out"))
        self.check(table, ["-o", "x"])
        self.check(table, ["--two"], ("word", "two"))
        self.check(table, ["--two", "x"], ("word", "two"))
        self.check(table, ["--two", "x", "y"])

    def test_operands_that_lack(self):
        table = Table([], [Operand("one", ANY, 2, 2), Operand("two", ANY, 0, 1), Operand("three", ANY, 1, None)])
        self.check(table, [], ("few", "one"), ("few", "three"))
        self.check(table, ["x"], ("few", "one"), ("few", "three"))
        self.check(table, ["x", "y"], ("few", "three"))
        self.check(table, ["x", "y", "z"], ("few", "three"))
        self.check(table, ["x", "y", "z", "w"])

    def test_operands_of_the_current_table_alone(self):
        part = Table([], [Operand("deep", ANY)])
        table = Table([], [Operand("few", CHOSEN, 0, 1)], {"go": part})
        self.check(table, ["go"], ("few", "deep"))
        self.check(table, ["go", "x"])

    def test_a_command_that_lacks(self):
        for traits, pairs in [((), [("none", "")]), (("alone",), []), (("far",), [("none", "")])]:
            table = Table([option("all", "a")], [], {"go": Table([])}, traits)
            self.check(table, ["-a"], *pairs)
            self.check(table, ["go"])
        self.check(Table([option("all", "a")]), ["-a"])
        table = Table([option("all", "a", NOTHING, 1)], [], {"go": Table([])}, ("alone",))
        self.check(table, [], ("low", "all"))
        self.check(table, ["go"], ("low", "all"))

    def test_options_that_came_too_few_times(self):
        options = [option("one", "o", NOTHING, 1), option("two", "t", NOTHING, 2, 3), option("zero", "z")]
        table = Table(options)
        self.check(table, [], ("low", "one"), ("low", "two"))
        self.check(table, ["-ot"], ("low", "two"))
        self.check(table, ["-tt"], ("low", "one"))
        self.check(table, ["-tto"])

    def test_conditions(self):
        options = [option("a", "a"), option("b", "b"), option("c", "c")]
        conditions = [("some", ("a", "b")), ("needs", "a", "c"), ("without", "b", "c")]
        table = Table(options, [], None, (), conditions)
        self.check(table, [], ("some", "0"))
        self.check(table, ["-c"], ("some", "0"))
        self.check(table, ["-a"], ("needs", "1"))
        self.check(table, ["-bc"], ("without", "2"))
        self.check(table, ["-abc"], ("without", "2"))
        self.check(table, ["-ab"], ("needs", "1"))
        self.check(table, ["-ac"])
        self.check(table, ["-b"])

    def test_the_table_then_the_commands_table(self):
        inner = [option("one", "o", NOTHING, 1), option("two", "t")]
        part = Table(inner, [Operand("deep", ANY)], None, (), [("some", ("two",)), ("needs", "one", "two")])
        outer = [option("three", "x", NOTHING, 2), option("four", "y")]
        table = Table(outer, [], {"go": part}, ("far",), [("needs", "three", "four")])
        self.check(
            table, ["-x", "go", "-o"],
            ("few", "deep"), ("low", "three"), ("needs", "0"), ("some", "0"), ("needs", "1"),
        )
        self.check(table, ["go", "x"], ("low", "three"), ("low", "one"), ("some", "0"))
        self.check(table, ["-x"], ("none", ""), ("low", "three"), ("needs", "0"))
        self.check(table, ["-x", "go", "-xyot", "x"])

    def test_all_at_once(self):
        table = Table(
            [option("a", "a", ("one", ANY)), option("b", "b", NOTHING, 1)], [Operand("file", ANY)],
            {"go": Table([])}, (), [("needs", "a", "b")],
        )
        self.check(
            table, ["-a"], ("word", "a"), ("few", "file"), ("none", ""), ("low", "b"), ("needs", "0"),
        )


class AtAWord(Reasons):
    def test_a_value_that_must_be(self):
        table = Table([option("one", "o", ("one", CHOSEN)), option("many", "m", ("some", ANY, 1, 2))], [Operand("f", ANY)])
        self.check(table, ["-o", "x", "y"], ("type", "one"))
        self.check(table, ["-o", "--one"], ("type", "one"))
        self.check(table, ["-m", "-x"], ("dash", "many"))
        self.check(table, ["-m", "--", "z"], ("dash", "many"))
        self.check(table, ["-m", "-", "x", "y"])

    def test_a_further_value(self):
        table = Table([option("many", "m", ("some", CHOSEN, 1, 2))])
        self.check(table, ["-m", "a", "x"], ("type", "many"))
        self.check(table, ["-m", "a", "b", "a"], ("extra", ""))
        self.check(table, ["-m", "a", "-x"], ("type", "many"), ("letter", "x"))
        some = Table([option("some", "s", ("some", ANY, 0, None))], [Operand("f", CHOSEN)])
        self.check(some, ["-s", "x", "-x"], ("dash", "some"), ("letter", "x"), ("type", "f"))
        self.check(some, ["-s", "--x"], ("dash", "some"), ("unknown", "x"), ("type", "f"))

    def test_options_are_over(self):
        table = Table([option("all", "a")], [Operand("file", CHOSEN, 0, None)], None, ("ends",))
        self.check(table, ["a", "-a"], ("over", ""), ("type", "file"))
        self.check(table, ["a", "--"], ("over", ""), ("type", "file"))
        self.check(table, ["--", "--all"], ("over", ""), ("type", "file"))
        self.check(table, ["a", "-"], ("type", "file"))
        mixed = Table([option("all", "a")], [Operand("file", CHOSEN, 0, None)], None, ("mixed",))
        self.check(mixed, ["a", "-a"])
        self.check(mixed, ["a", "-b"], ("letter", "b"), ("type", "file"))

    def test_ends(self):
        for traits in [(), ("dashed",)]:
            self.check(Table([], [], None, traits), ["--"], ("ends", ""))
        self.check(Table([], [Operand("file", ANY)]), ["--"], ("ends", ""), ("dash", "file"))
        self.check(Table([], [Operand("file", ANY)], None, ("dashed",)), ["--"])
        self.check(Table([], [], None, ("ends",)), ["--"])
        self.check(Table([], [Operand("file", CHOSEN, 0)], None, ("ends",)), ["--", "--"], ("over", ""), ("type", "file"))

    def test_long_options(self):
        options = [
            option("all", "", NOTHING, 0, 1), option("one", "", ("one", CHOSEN), 0, 2),
            option("maybe", "", ("maybe", CHOSEN)), option("many", "", ("some", ANY, 0, None)),
        ]
        table = Table(options)
        self.check(table, ["--all", "--all"], ("often", "all"))
        self.check(table, ["--all", "--all=x"], ("often", "all"))
        self.check(table, ["--all="], ("takes", "all"))
        self.check(table, ["--many=x"], ("takes", "many"))
        self.check(table, ["--one=x"], ("value", "one"))
        self.check(table, ["--one="], ("value", "one"))
        self.check(table, ["--one=a", "--one=b", "--one=a"], ("often", "one"))
        self.check(table, ["--maybe=a=b"], ("value", "maybe"))
        self.check(table, ["--one=a", "--maybe=b", "--maybe", "--many", "x", "y"])

    def test_unknown_and_several(self):
        table = Table([option("add", "a"), option("adder", "b"), option("ad", "c"), option("out", "o")])
        self.check(table, ["--a"], ("several", "a"))
        self.check(table, ["--a=x=y"], ("several", "a"))
        self.check(table, ["--o"], ("unknown", "o"))
        self.check(table, ["--adde"], ("unknown", "adde"))
        self.check(table, ["--addx"], ("unknown", "addx"))
        self.check(table, ["--x=--add"], ("unknown", "x"))
        self.check(table, ["--="], ("unknown", ""))
        self.check(table, ["---"], ("unknown", "-"))
        self.check(table, ["--Add"], ("unknown", "Add"))
        self.check(table, ["--ad=x"], ("takes", "ad"))
        self.check(table, ["--ad"])

    def test_abbreviated(self):
        options = [option("add", "", NOTHING, 0, 1), option("adder"), option("out", "", ("one", CHOSEN), 0, 1)]
        table = Table(options, [], None, ("abbreviated",))
        self.check(table, ["--ad"], ("several", "ad"))
        self.check(table, ["--ad=x"], ("several", "ad"))
        self.check(table, ["--adde=x"], ("takes", "adder"))
        self.check(table, ["--add", "--add"], ("often", "add"))
        self.check(table, ["--o=x"], ("value", "out"))
        self.check(table, ["--o=a", "--ou=a"], ("often", "out"))
        self.check(table, ["--x"], ("unknown", "x"))
        self.check(table, ["--"], ("ends", ""))
        self.check(table, ["--=a"], ("unknown", ""))
        self.check(table, ["--o=a", "--add", "--adde"])

    def test_guessed(self):
        options = [option("bdd", "", NOTHING, 0, 1), option("badder", "", ("one", CHOSEN), 0, 1), option("b", "", NOTHING, 0, 1)]
        table = Table(options, [], None, ("guessed",))
        self.check(table, ["--bd=x"], ("takes", "bdd"))
        self.check(table, ["--ba=x"], ("value", "badder"))
        self.check(table, ["--b=x"], ("takes", "b"))
        self.check(table, ["--b", "--b"], ("often", "b"))
        self.check(table, ["--c"], ("unknown", "c"))
        more = Table([option("bz", "", NOTHING, 0, 1), option("by", "", ("some", ANY, 0, 1)), option("bx", "", ("one", CHOSEN))],
                     [], None, ("guessed",))
        self.check(more, ["--b=x"], ("takes", "bz"), ("takes", "by"), ("value", "bx"))
        self.check(more, ["--bz", "--b=x"], ("often", "bz"), ("takes", "by"), ("value", "bx"))
        self.check(more, ["--b=a"])

    def test_letters(self):
        options = [
            option("all", "a", NOTHING, 0, 2), option("one", "o", ("one", CHOSEN), 0, 1),
            option("maybe", "m", ("maybe", CHOSEN), 0, 1), option("many", "s", ("some", ANY, 0, None)), option("none"),
        ]
        table = Table(options)
        self.check(table, ["-x"], ("letter", "x"))
        self.check(table, ["-aax"], ("letter", "x"))
        self.check(table, ["-a=b"], ("letter", "="))
        self.check(table, ["-a-"], ("letter", "-"))
        self.check(table, ["-aaa"], ("often", "all"))
        self.check(table, ["-aa", "-a"], ("often", "all"))
        self.check(table, ["-sx"], ("takes", "many"))
        self.check(table, ["-asa"], ("takes", "many"))
        self.check(table, ["-ox"], ("value", "one"))
        self.check(table, ["-oa", "-oa"], ("often", "one"))
        self.check(table, ["-mx"], ("letter", "x"))
        self.check(table, ["-mox"], ("value", "one"))
        self.check(table, ["-mm"], ("often", "maybe"))
        self.check(table, ["-mas"])
        self.check(table, ["-ma", "-oa"])

    def test_operands(self):
        table = Table([], [Operand("one", CHOSEN, 1, 1), Operand("two", NUMBER, 0, 2), Operand("three", CHOSEN)])
        self.check(table, ["x"], ("type", "one"))
        self.check(table, ["a", "x"], ("full", "one"), ("type", "two"), ("type", "three"))
        self.check(table, ["a", "1", "2", "3"], ("full", "two"), ("type", "three"))
        self.check(table, ["a", "b", "a"], ("full", "three"))
        self.check(table, ["a", "1", "b"])
        few = Table([], [Operand("one", CHOSEN, 2, 3), Operand("two", ANY, 1, 2), Operand("three", NUMBER, 0, 1)])
        self.check(few, ["a", "-x"], ("over", ""), ("type", "one"))
        self.check(few, ["a", "b", "a", "x", "y", "z"], ("full", "two"), ("type", "three"))

    def test_dash_words_as_operands(self):
        table = Table([], [Operand("one", ANY, 0, 1), Operand("two", NUMBER, 0, 1), Operand("three", CHOSEN, 0, 1)])
        self.check(table, ["-7"], ("letter", "7"), ("dash", "one"), ("type", "two"), ("type", "three"))
        self.check(table, ["-3"])
        self.check(table, ["--x"], ("unknown", "x"), ("dash", "one"), ("type", "two"), ("type", "three"))

    def test_commands(self):
        table = Table([], [Operand("one", NUMBER), Operand("two", NUMBER)], {"go": Table([]), "up": Table([])})
        self.check(table, ["go"], ("type", "one"), ("early", "go"))
        self.check(table, ["1", "up"], ("full", "one"), ("type", "two"), ("early", "up"))
        self.check(table, ["1", "2", "gone"], ("full", "two"), ("command", "gone"))
        self.check(table, ["-x"], ("letter", "x"), ("type", "one"), ("command", "-x"))
        self.check(table, ["1", "2", "go", "go"], ("extra", ""))
        self.check(table, ["1", "2", "go"])
        self.check(Table([], [], {"go": Table([])}), ["g"], ("command", "g"))

    def test_extra(self):
        self.check(Table([]), ["x"], ("extra", ""))
        self.check(Table([]), ["-"], ("extra", ""))
        self.check(Table([]), [""], ("extra", ""))
        self.check(Table([]), ["-x"], ("letter", "x"))

    def test_behind_a_command(self):
        part = Table([option("deep", "d", NOTHING, 0, 1), option("deeper", "e")], [Operand("file", CHOSEN)], None, ("guessed",))
        outer = [option("den", "n", ("one", CHOSEN), 0, 1), option("all", "a", NOTHING, 0, 1)]
        near, far = Table(outer, [], {"go": part}), Table(outer, [], {"go": part}, ("far",))
        self.check(near, ["go", "-a"], ("letter", "a"), ("type", "file"))
        self.check(near, ["go", "--all"], ("unknown", "all"), ("type", "file"))
        self.check(far, ["-a", "go", "-a"], ("often", "all"), ("type", "file"))
        self.check(far, ["go", "--all=x"], ("takes", "all"), ("type", "file"))
        self.check(far, ["go", "--de=x"], ("takes", "deep"), ("takes", "deeper"), ("value", "den"), ("type", "file"))
        self.check(near, ["go", "--de=x"], ("takes", "deep"), ("takes", "deeper"), ("type", "file"))
        self.check(far, ["-na", "go", "-d", "--de=a"], ("often", "deep"), ("takes", "deeper"), ("often", "den"), ("type", "file"))
        self.check(far, ["go", "a", "b"], ("full", "file"))
        self.check(far, ["go", "a", "-d"], ("over", ""), ("full", "file"))
        self.check(near, ["--de=x"], ("unknown", "de"), ("command", "--de=x"))
        self.check(far, ["go", "-ad", "a"])

    def test_several_in_order(self):
        table = Table(
            [option("many", "m", ("some", NUMBER, 0, None)), option("add"), option("adder")],
            [Operand("one", CHOSEN, 0, 1), Operand("two", ANY, 0, 1)], {"go": Table([])}, ("mixed",),
        )
        self.check(
            table, ["-m", "1", "--ad"],
            ("type", "many"), ("several", "ad"), ("type", "one"), ("dash", "two"), ("command", "--ad"),
        )
        self.check(table, ["a", "x", "y"], ("full", "two"), ("command", "y"))

    def test_pairs_are_there_just_for_lists_that_are_refused(self):
        known = {
            "word", "few", "none", "low", "needs", "without", "some", "type", "dash", "over", "ends", "often",
            "takes", "value", "several", "unknown", "letter", "full", "early", "command", "extra",
        }
        found = set()
        for seed, table in tables(0, 300):
            for words in sample_lists(table, seed, 40):
                pairs = reasons(table, words)
                self.assertEqual(pairs == (), bool(read(table, words)), (seed, words))
                found.update(what for what, _ in pairs)
        self.assertEqual(found, known)


if __name__ == "__main__":
    unittest.main()
