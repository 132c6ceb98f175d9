"""How lists go on: point [31]."""

import unittest
from random import Random

from switchyard.errors import TooLarge
from switchyard.goingon import GoingOn, going_on
from switchyard.machines import alphabet, measures
from switchyard.readings import all_readings
from switchyard.tables import Operand, Option, Table
from tests.brute import least_behind, length_of, row_of
from tests.samples import small_tables

ANY = ("any",)
NOTHING = ("nothing",)
CHOSEN = ("chosen", "a", "b")


def option(name, letter="", takes=NOTHING, low=0, high=None):
    return Option(name, letter, takes, low, high)


def operand(name, kind=ANY, few=0, many=None):
    return Operand(name, kind, few, many)


class Going(unittest.TestCase):
    def check(self, table, words, beginning, signs, word, is_end, most=4):
        told = going_on(table, words, beginning)
        self.assertIsInstance(told, GoingOn)
        self.assertEqual((told.signs, told.word, told.is_end), (signs, word, is_end))
        self.assertEqual(list(told.signs), sorted(told.signs))
        self.check_all(table, words, beginning, told, most)

    def check_all(self, table, words, beginning, told, most):
        """That these are the least lists, by all lists with at most so many further signs."""
        text = "".join(words) + beginning
        signs = alphabet([table], text)
        foreign = [sign for sign in "ABCDEFGHIJKLMNOPQRSTUVWXYZ" if sign not in text][1]
        least = least_behind(table, signs, (*row_of(words), *beginning), most)
        for sign in signs:
            found = told.word if sign == "" else told.signs.get(sign)
            if sign == foreign:
                self.assertNotIn(sign, told.signs)
            elif sign in least:
                self.assertEqual(found, least[sign], (words, beginning, sign))
            elif found is not None:
                self.assertGreater(length_of(found), length_of(words) + len(beginning) + most)
                self.assertNotEqual(all_readings(table, found), [])
        self.assertIs(told.is_end, beginning == "" and all_readings(table, words) != [])

    def test_no_words(self):
        table = Table([option("add", "a")], [operand("f", CHOSEN, 0, 1)])
        self.check(table, [], "", {"-": ("-a",), "a": ("a",), "b": ("b",)}, None, True)
        table = Table([option("add", "a", NOTHING, 1)])
        self.check(table, (), "", {"-": ("-a",)}, None, False)
        self.check(Table([]), [], "", {}, None, True)
        table = Table([], [operand("f", ANY, 0, 1)])
        self.check(table, [], "", {"-": ("-",), "=": ("=",), "A": ("A",)}, ("",), True)

    def test_words_behind_which_lists_go_on_in_several_ways(self):
        table = Table([option("add", "a", ("some", ANY, 0, 2))], [operand("f", CHOSEN, 1, 1)])
        self.check(table, ["-a"], "", {
            "-": ("-a", "-", "a"), "=": ("-a", "=", "a"), "A": ("-a", "A", "a"), "a": ("-a", "a"), "b": ("-a", "b"),
            "d": ("-a", "d", "a"),
        }, ("-a", "", "a"), False)
        self.check(table, ["-a", "a"], "", {
            "-": ("-a", "a", "-", "a"), "=": ("-a", "a", "=", "a"), "A": ("-a", "a", "A", "a"), "a": ("-a", "a", "a"),
            "b": ("-a", "a", "b"), "d": ("-a", "a", "d", "a"),
        }, ("-a", "a", "", "a"), True)

    def test_words_that_no_list_begins_with(self):
        table = Table([option("add", "a")], [operand("f", CHOSEN, 1, 1)])
        for words, beginning in [(["x"], ""), (["a", "a"], ""), (["-b"], ""), ([], "x"), ([], "--b"), (["a"], "-a")]:
            self.check(table, words, beginning, {}, None, False)
        none = Table([option("a", "a", NOTHING, 1), option("b", "b", NOTHING, 1)], [], None, (), [("without", "a", "b")])
        for words, beginning in [([], ""), (["-a"], ""), (["-b"], "-"), ([], "-")]:
            self.check(none, words, beginning, {}, None, False)

    def test_long_names(self):
        table = Table([option("add"), option("adder", "", ("maybe", CHOSEN))])
        self.check(table, [], "--", {"a": ("--add",)}, None, False)
        self.check(table, [], "--ad", {"d": ("--add",)}, None, False)
        self.check(table, [], "--add", {"e": ("--adder",)}, ("--add",), False)
        self.check(table, [], "--adder", {"=": ("--adder=a",)}, ("--adder",), False)
        self.check(table, ["--add"], "--adder=", {"a": ("--add", "--adder=a"), "b": ("--add", "--adder=b")}, None, False)
        guessed = Table(table.options, [], None, ("guessed",))
        self.check(guessed, [], "--a", {"=": ("--a=a",), "d": ("--ad",)}, ("--a",), False)
        ends = Table(table.options, [operand("f", ("chosen", "b"), 1, 1)], None, ("ends",))
        self.check(ends, [], "--", {"a": ("--add", "b")}, ("--", "b"), False)

    def test_letters_values_operands_and_commands(self):
        table = Table([option("a", "a"), option("b", "b", ("one", CHOSEN), 0, 1)], [], {"go": Table([]), "get": Table([])})
        self.check(table, [], "-", {"-": ("--a", "go"), "a": ("-a", "go"), "b": ("-ba", "go")}, None, False)
        self.check(table, [], "-a", {"a": ("-aa", "go"), "b": ("-aba", "go")}, ("-a", "go"), False)
        self.check(table, [], "-b", {"a": ("-ba", "go"), "b": ("-bb", "go")}, ("-b", "a", "go"), False)
        self.check(table, ["-b"], "", {"a": ("-b", "a", "go"), "b": ("-b", "b", "go")}, None, False)
        self.check(table, ["-b"], "b", {}, ("-b", "b", "go"), False)
        self.check(table, ["-b", "a"], "g", {"e": ("-b", "a", "get"), "o": ("-b", "a", "go")}, None, False)
        self.check(table, [], "ge", {"t": ("get",)}, None, False)
        self.check(table, ["get"], "", {}, None, True)

    def test_the_words_may_be_all(self):
        table = Table([option("a", "a", ("some", CHOSEN, 1, 2), 1, 1)])
        for words, holds in [([], False), (["-a"], False), (["-a", "a"], True), (["-a", "a", "a"], True), (["-a"] * 2, False)]:
            self.assertIs(going_on(table, words, "").is_end, holds)
            self.assertIs(going_on(table, words, "a").is_end, False)
        self.assertIs(going_on(table, ["-a", "a"], "").is_end, True)

    def test_foreign_signs(self):
        table = Table([], [operand("f", ANY, 0, 1)])
        self.check(table, [], "x", {"-": ("x-",), "=": ("x=",), "A": ("xA",), "x": ("xx",)}, ("x",), False)
        self.check(table, [], "A", {"-": ("A-",), "=": ("A=",), "A": ("AA",), "B": ("AB",)}, ("A",), False)
        self.check(table, [], "B!", {"!": ("B!!",), "-": ("B!-",), "=": ("B!=",), "A": ("B!A",), "B": ("B!B",)}, ("B!",), False)
        self.check(Table([option("a", "a")]), ["A"], "", {}, None, False)

    def test_signs_of_the_words_stand_in_the_least_list(self):
        table = Table([option("adder", "a", NOTHING, 1, 1)], [operand("f", ANY, 0, 2)], None, ("dashed", "ends", "mixed"))
        self.assertEqual(going_on(table, ["!"], "-").signs["-"], ("!", "--!", "-a"))
        self.assertEqual(going_on(table, ["x"], "-").signs["-"], ("x", "---", "-a"))

    def test_where_capitals_lack_no_sign_is_left_out(self):
        table = Table([], [operand("f", ANY, 0, 1)])
        word = "ABCDEFGHIJKLMNOPQRSTUVWXY"
        self.assertEqual(list(going_on(table, [], word).signs), ["-", "=", *word])
        self.assertEqual(list(going_on(table, [], word[:-1]).signs), ["-", "=", *word])

    def test_the_arguments_stay(self):
        words = ["-a"]
        table = Table([option("a", "a")])
        told = going_on(table, words, "")
        self.assertEqual((words, told), (["-a"], going_on(table, ("-a",), "")))
        told.signs["x"] = ()
        self.assertNotEqual(told, going_on(table, words, ""))

    def test_equality(self):
        told = GoingOn({"a": ("a",)}, ("b",), True)
        self.assertEqual(told, GoingOn({"a": ["a"]}, ["b"], True))
        for other in [GoingOn({}, ("b",), True), GoingOn({"a": ("a",)}, None, True), GoingOn({"a": ("a",)}, ("b",), False), None]:
            self.assertFalse(told == other)

    def test_samples(self):
        for seed, table in small_tables(0, 60):
            rng = Random(seed)
            for _ in range(3):
                signs = [*alphabet([table], "")[1:], "!", "A", "-", "-"]
                words = ["".join(rng.choices(signs, k=rng.randint(0, 2))) for _ in range(rng.choice([0, 1, 1, 2]))]
                beginning = rng.choice(["", "-", "--", "--a", "-a", "-ab", "a", "".join(rng.choices(signs, k=3))])
                self.check_all(table, words, beginning, going_on(table, words, beginning), 3)

    def test_tables_above_the_measures(self):
        large = Table([option("a", "", ("some", ANY, 9, 9)), option("b", "", NOTHING, 0, 3)])
        self.assertEqual(measures(large)[0], 132)
        with self.assertRaises(TooLarge) as caught:
            going_on(large, [], "")
        self.assertEqual(caught.exception.number, 132)


if __name__ == "__main__":
    unittest.main()
