"""Help: points [2] and [14]."""

import unittest

from switchyard.errors import BadPart
from switchyard.helptexts import help_text
from switchyard.tables import Operand, Option, Table
from tests.samples import tables

ANY = ("any",)
NOTHING = ("nothing",)


def option(name, letter="", takes=NOTHING, low=0, high=None):
    return Option(name, letter, takes, low, high)


class Widths(unittest.TestCase):
    def test_widths(self):
        for width in [40, 41, 199, 200]:
            self.assertEqual(help_text(Table([]), "cp", width), "usage: cp\n")

    def test_what_is_no_width(self):
        for width in [39, 201, 0, -40, True, False, None, "40", 40.0, [40]]:
            with self.assertRaises(BadPart) as caught:
                help_text(Table([]), "cp", width)
            self.assertEqual(caught.exception.part, "width")

    def test_no_line_is_wider_unless_it_is_one_word(self):
        for seed, table in tables(0, 200):
            for width in [40, 41, 57]:
                text = help_text(table, "program", width)
                self.assertTrue(text.endswith("\n"))
                for line in text[:-1].split("\n"):
                    self.assertEqual(line, line.rstrip(" "))
                    if not line.startswith("      --"):
                        self.assertLessEqual(len(line), width, (seed, line))


class Usage(unittest.TestCase):
    def usage(self, table, name="cp", width=200):
        text = help_text(table, name, width)
        lines = text.split("\n")
        found = [lines[0]]
        for line in lines[1:]:
            if not line.startswith("  ") or line.startswith("  -") or line.startswith("      "):
                break
            found.append(line)
        return found

    def test_what_options_take(self):
        for takes, text in [(NOTHING, "--add"), (("maybe", ANY), "--add[=value]"), (("one", ANY), "--add value"),
                            (("some", ANY, 0, None), "--add [value]..."), (("some", ANY, 0, 1), "--add [value]..."),
                            (("some", ANY, 1, 1), "--add value..."), (("some", ANY, 2, None), "--add value...")]:
            for low, high, whole in [(1, 1, text), (0, 1, f"[{text}]"), (0, None, f"[{text}]..."), (1, None, f"{text}..."),
                                     (2, 2, f"{text}..."), (0, 2, f"[{text}]..."), (9, 9, f"{text}...")]:
                for letter in ["", "a"]:
                    table = Table([option("add", letter, takes, low, high)])
                    self.assertEqual(self.usage(table), [f"usage: cp {whole}"])

    def test_operands(self):
        for few, many, text in [(1, 1, "file"), (0, 1, "[file]"), (0, None, "[file]..."), (1, None, "file..."),
                                (2, 3, "file..."), (0, 9, "[file]..."), (2, 2, "file...")]:
            found = help_text(Table([], [Operand("file", ANY, few, many)]), "cp", 60).split("\n")
            self.assertEqual(found[0], f"usage: cp {text}")

    def test_commands(self):
        commands = {"up": Table([]), "at": Table([]), "go": Table([])}
        self.assertEqual(self.usage(Table([], [], commands)), ["usage: cp at|go|up"])
        self.assertEqual(self.usage(Table([], [], commands, ["alone"])), ["usage: cp [at|go|up]"])
        self.assertEqual(self.usage(Table([], [], {"go": Table([])}, ["far"])), ["usage: cp go"])

    def test_turn(self):
        table = Table([option("b", "", NOTHING, 1, 1), option("a", "", NOTHING, 1, 1)], [Operand("y", ANY), Operand("x", ANY)],
                      {"go": Table([option("c")])})
        self.assertEqual(help_text(table, "a-b", 60).split("\n")[0], "usage: a-b --b --a y x go")

    def test_wrapped(self):
        table = Table([option("aaaaaaaa", "", ("some", ANY, 1, 2), 0, 2), option("bbbbbbbb", "", ("one", ANY), 1, 1),
                       option("c", "", ("maybe", ANY), 0, 1), option("dddddddd", "", ("some", ANY, 0, 1), 0, None)])
        words = ["[--aaaaaaaa value...]...", "--bbbbbbbb value", "[--c[=value]]", "[--dddddddd [value]...]..."]
        self.assertEqual([len(word) for word in words], [24, 16, 13, 26])
        self.assertEqual(help_text(table, "cp", 40).split("\n")[:3], [
            "usage: cp [--aaaaaaaa value...]...",
            "  --bbbbbbbb value [--c[=value]]",
            "  [--dddddddd [value]...]..."])
        self.assertEqual(help_text(table, "cp", 50).split("\n")[:3], [
            "usage: cp [--aaaaaaaa value...]...",
            "  --bbbbbbbb value [--c[=value]]",
            "  [--dddddddd [value]...]..."])
        self.assertEqual(help_text(table, "cp", 51).split("\n")[:3], [
            "usage: cp [--aaaaaaaa value...]... --bbbbbbbb value",
            "  [--c[=value]] [--dddddddd [value]...]...",
            "      --aaaaaaaa value..."])

    def test_just_as_wide_and_one_less(self):
        table = Table([option("aaaaaaaa", "", NOTHING, 1, 1), option("bbbbbbbb", "", NOTHING, 1, 1),
                       option("cccc", "", NOTHING, 1, 1)])
        first = "usage: cp --aaaaaaaa --bbbbbbbb --cccc"
        self.assertEqual(len(first), 38)
        self.assertEqual(help_text(table, "cpcp", 40).split("\n")[0], "usage: cpcp --aaaaaaaa --bbbbbbbb --cccc")
        self.assertEqual(help_text(table, "cpcpc", 40).split("\n")[:2], ["usage: cpcpc --aaaaaaaa --bbbbbbbb", "  --cccc"])
        self.assertEqual(help_text(table, "cpcpc", 41).split("\n")[0], "usage: cpcpc --aaaaaaaa --bbbbbbbb --cccc")

    def test_later_lines_count_their_blanks(self):
        options = [option(sign * 8, "", NOTHING, 1, 1) for sign in "abcdefgh"]
        lines = help_text(Table(options), "x" * 33, 40).split("\n")
        self.assertEqual(lines[:4], ["usage: " + "x" * 33, "  --aaaaaaaa --bbbbbbbb --cccccccc", "  --dddddddd --eeeeeeee --ffffffff",
                                     "  --gggggggg --hhhhhhhh"])
        options = [option(name, "", NOTHING, 1, 1) for name in ["aaaaaaaa", "bbbbbbbb", "cccccccc", "ddd", "e"]]
        lines = help_text(Table(options), "x" * 33, 40).split("\n")
        self.assertEqual(lines[1:3], ["  --aaaaaaaa --bbbbbbbb --cccccccc --ddd", "  --e"])
        self.assertEqual(len(lines[1]), 40)
        options[3] = option("dddd", "", NOTHING, 1, 1)
        lines = help_text(Table(options), "x" * 33, 40).split("\n")
        self.assertEqual(lines[1:3], ["  --aaaaaaaa --bbbbbbbb --cccccccc", "  --dddd --e"])

    def test_words_longer_than_the_width(self):
        name = "x" * 50
        self.assertEqual(help_text(Table([]), name, 40), f"usage:\n  {name}\n")
        table = Table([], [Operand("file", ANY)], {"go": Table([])})
        self.assertEqual(help_text(table, name, 40).split("\n")[:3], ["usage:", f"  {name}", "  file go"])


class Lines(unittest.TestCase):
    def lines(self, table, width=200):
        found = help_text(table, "x", width).split("\n")
        self.assertEqual(found[-1], "")
        return found[1:-1]

    def test_how_often(self):
        for low, high, text in [(0, None, "any number of times"), (1, None, "at least 1 times"), (2, None, "at least 2 times"),
                                (1, 1, "just 1 times"), (2, 2, "just 2 times"), (0, 1, "at most 1 times"),
                                (0, 2, "at most 2 times"), (1, 2, "1 to 2 times"), (3, 9, "3 to 9 times"),
                                (9, None, "at least 9 times")]:
            self.assertEqual(self.lines(Table([option("add", "a", NOTHING, low, high)])),
                             ["  -a, --add             nothing, " + text])

    def test_what_options_take(self):
        for takes, left, right in [
                (NOTHING, "", "nothing,"), (("one", ANY), " value", "any,"),
                (("maybe", ("number", -3, 5)), "[=value]", "number -3..5,"),
                (("one", ("chosen", "b", "a")), " value", "chosen b,a,"),
                (("some", ANY, 0, None), " [value]...", "any any number of words,"),
                (("some", ANY, 0, 2), " [value]...", "any at most 2 words,"),
                (("some", ("number", 0, 1), 1, None), " value...", "number 0..1 at least 1 words,"),
                (("some", ("chosen", "a"), 1, 1), " value...", "chosen a just 1 words,"),
                (("some", ANY, 2, 3), " value...", "any 2 to 3 words,")]:
            table = Table([option("add", "a", takes)])
            self.assertEqual(self.lines(table), [("  -a, --add" + left).ljust(24) + right + " any number of times"])
            table = Table([option("add", "", takes, 0, 1)])
            self.assertEqual(self.lines(table), [("      --add" + left).ljust(24) + right + " at most 1 times"])

    def test_left_sides_of_23_signs_and_of_24(self):
        short, long = option("abcdef", "a", ("some", ANY, 1, 1), 0, 1), option("abcdefg", "b", ("some", ANY, 1, 1), 0, 1)
        self.assertEqual(self.lines(Table([short, long])), [
            "  -a, --abcdef value... any just 1 words, at most 1 times",
            "  -b, --abcdefg value...",
            "                        any just 1 words, at most 1 times"])
        short, long = option("abcd", "", ("some", ANY, 0, 1)), option("abcde", "", ("some", ANY, 0, 1))
        self.assertEqual(self.lines(Table([short, long])), [
            "      --abcd [value]... any at most 1 words, any number of times",
            "      --abcde [value]...",
            "                        any at most 1 words, any number of times"])
        longest = option("abcdefgh", "z", ("some", ANY, 0, None), 1, 1)
        self.assertEqual(self.lines(Table([longest])), [
            "  -z, --abcdefgh [value]...",
            "                        any any number of words, just 1 times"])

    def test_the_right_side_is_wrapped(self):
        table = Table([option("add", "a", ("some", ("chosen", "a", "b"), 2, 3), 0, 1)])
        self.assertEqual(self.lines(table, 40), [
            "  -a, --add value...    chosen a,b 2 to",
            "                        3 words, at most",
            "                        1 times"])
        self.assertEqual(self.lines(table, 41), [
            "  -a, --add value...    chosen a,b 2 to 3",
            "                        words, at most 1",
            "                        times"])
        long = Table([option("abcdefgh", "a", ("some", ("chosen", "a", "b"), 2, 3), 0, 1)])
        self.assertEqual(self.lines(long, 40), [
            "  -a, --abcdefgh value...",
            "                        chosen a,b 2 to",
            "                        3 words, at most",
            "                        1 times"])

    def test_a_word_longer_than_the_right_side_stands_alone(self):
        names = ["abcdefgh", "bcdefghi", "cdefghij"]
        table = Table([option("add", "", ("one", ("chosen", *names)), 0, 1)], [Operand("file", ("chosen", *names))])
        self.assertEqual(help_text(table, "x", 40), (
            "usage: x [--add value] file\n"
            "      --add value       chosen\n"
            "                        abcdefgh,bcdefghi,cdefghij,\n"
            "                        at most 1 times\n"
            "  file                  chosen\n"
            "                        abcdefgh,bcdefghi,cdefghij,\n"
            "                        just 1 words\n"))

    def test_operands(self):
        for few, many, text in [(1, 1, "just 1 words"), (0, None, "any number of words"), (0, 1, "at most 1 words"),
                                (2, None, "at least 2 words"), (2, 3, "2 to 3 words")]:
            for kind, word in [(ANY, "any"), (("number", -9, 9), "number -9..9"), (("chosen", "b", "a"), "chosen b,a")]:
                self.assertEqual(self.lines(Table([], [Operand("abcdefgh", kind, few, many)])),
                                 [f"  abcdefgh              {word}, {text}"])

    def test_conditions(self):
        options = [option(name, "", NOTHING, 0, 1) for name in ["a", "b", "c"]]
        conditions = [("without", "b", "a"), ("some", ("c",)), ("needs", "a", "b")]
        self.assertEqual(self.lines(Table(options, [Operand("file", ANY)], None, [], conditions))[3:], [
            "  file                  any, just 1 words",
            "  --b not with --a",
            "  at least one of --c",
            "  --a needs --b"])
        some = Table(options, (), None, (), [("some", ("b", "a", "c"))])
        self.assertEqual(self.lines(some)[-1], "  at least one of --b --a --c")

    def test_conditions_are_wrapped(self):
        names = ["abcdefgh", "bcdefghi", "cdefghij", "defghijk"]
        table = Table([option(name) for name in names], [], None, [], [("some", tuple(names))])
        self.assertEqual(self.lines(table, 40)[-2:], ["  at least one of --abcdefgh --bcdefghi", "    --cdefghij --defghijk"])
        self.assertEqual(len("  at least one of --abcdefgh --bcdefghi"), 39)
        names = ["abcdefgh", "bcdefgh", "c", "d"]
        table = Table([option(name) for name in names], [], None, [], [("some", tuple(names))])
        self.assertEqual(self.lines(table, 40)[-2:], ["  at least one of --abcdefgh --bcdefgh", "    --c --d"])
        self.assertEqual(self.lines(table, 42)[-2:], ["  at least one of --abcdefgh --bcdefgh --c", "    --d"])


class Commands(unittest.TestCase):
    def test_each_command_behind_an_empty_line(self):
        go = Table([option("deep", "d", NOTHING, 0, 1), option("e", "", NOTHING, 1, 1)], [Operand("from", ANY)], None, [],
                   [("needs", "deep", "e")])
        table = Table([option("add", "a", NOTHING, 0, 1)], [Operand("file", ANY)], {"go": go, "at": Table([])}, ["far"],
                      [("some", ("add",))])
        self.assertEqual(help_text(table, "cp", 60), (
            "usage: cp [--add] file at|go\n"
            "  -a, --add             nothing, at most 1 times\n"
            "  file                  any, just 1 words\n"
            "  at least one of --add\n"
            "\n"
            "usage: cp at\n"
            "\n"
            "usage: cp go [--deep] --e from\n"
            "  -d, --deep            nothing, at most 1 times\n"
            "      --e               nothing, just 1 times\n"
            "  from                  any, just 1 words\n"
            "  --deep needs --e\n"))

    def test_the_name_and_the_command_are_one_word(self):
        name = "x" * 28
        table = Table([], [], {"abcd": Table([]), "abcde": Table([])}, ["alone"])
        self.assertEqual(help_text(table, name, 40), (
            f"usage: {name}\n  [abcd|abcde]\n"
            f"\nusage: {name} abcd\n"
            f"\nusage:\n  {name} abcde\n"))


if __name__ == "__main__":
    unittest.main()
