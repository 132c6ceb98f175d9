"""Tables as texts: points [2], [12] and [13]."""

import unittest

from switchyard.errors import BadPart, BadText
from switchyard.tables import Operand, Option, Table
from switchyard.tabletexts import read_table, write_table
from tests.samples import tables

ANY = ("any",)
NOTHING = ("nothing",)


class Texts(unittest.TestCase):
    def bad(self, text, line, column):
        with self.assertRaises(BadText) as caught:
            read_table(text)
        self.assertEqual((caught.exception.line, caught.exception.column), (line, column), text)

    def bad_at(self, text):
        """A text of one line, with a mark ahead of where it goes wrong."""
        self.bad(text.replace("@", ""), 1, text.index("@") + 1)
        self.bad("\n# none\noption zz - nothing 0..\n" + text.replace("@", "") + "\ntrait", 4, text.index("@") + 1)
        wide = "   " + text.replace(" ", "  ") + "  # more"
        self.bad(wide.replace("@", ""), 1, wide.index("@") + 1)

    def bad_part(self, part, text):
        with self.assertRaises(BadPart) as caught:
            read_table(text)
        self.assertEqual(caught.exception.part, part, text)


class Reading(Texts):
    def test_a_whole_table(self):
        text = ("option force f nothing 0..1\noption out o one any 1..\noption in - maybe chosen b,a 2..3\n"
                "option n n some number -5..12 0.. 0..\noperand file any 0..\noperand to chosen x 1..1\n"
                "trait mixed\ntrait ends\ntrait far\n"
                "needs force out\nwithout out in\nsome in force\n"
                "command go\noption deep d nothing 0..\ncommand at\noperand from number 0..0 2..9\ntrait dashed\n")
        go = Table([Option("deep", "d", NOTHING)])
        at = Table([], [Operand("from", ("number", 0, 0), 2, 9)], None, ["dashed"])
        options = [Option("force", "f", NOTHING, 0, 1), Option("out", "o", ("one", ANY), 1),
                   Option("in", "", ("maybe", ("chosen", "b", "a")), 2, 3),
                   Option("n", "n", ("some", ("number", -5, 12), 0, None))]
        operands = [Operand("file", ANY, 0, None), Operand("to", ("chosen", "x"))]
        conditions = [("needs", "force", "out"), ("without", "out", "in"), ("some", ("in", "force"))]
        table = Table(options, operands, {"go": go, "at": at}, ["far", "ends", "mixed"], conditions)
        self.assertEqual(read_table(text), table)
        self.assertEqual(read_table(text[:-1]), table)

    def test_lines_of_one_kind_need_not_stand_together(self):
        text = "some b\ntrait ends\noperand x any 0..1\noption b - nothing 0..\noperand y any 0..1\noption a - nothing 0.."
        table = Table([Option("b", "", NOTHING), Option("a", "", NOTHING)],
                      [Operand("x", ANY, 0, 1), Operand("y", ANY, 0, 1)], None, ["ends"], [("some", ("b",))])
        self.assertEqual(read_table(text), table)

    def test_no_lines(self):
        for text in ["", "\n", "\n\n", "   ", "#", "# option", "  # a\n\n #", " \n "]:
            self.assertEqual(read_table(text), Table([]), text)

    def test_blanks_and_remarks(self):
        option = Table([Option("a", "b", ("one", ANY))])
        for text in ["option a b one any 0..", "  option a b one any 0..  ", "option   a  b one    any  0..",
                     "option a b one any 0..#more", "option a b one any 0.. # option # x", "\n\noption a b one any 0..\n",
                     "#\n   #\n option a b one any 0..\n#x", "option a b one any 0..   \n\n"]:
            self.assertEqual(read_table(text), option, text)
        self.assertEqual(read_table("trait ends#\ntrait mixed# x"), Table([], [], None, ["ends", "mixed"]))
        self.bad("trait#ends", 1, 6)
        self.bad("trait #ends", 1, 6)
        self.bad("tra#it ends", 1, 1)

    def test_other_blanks_and_line_ends_are_signs_of_words(self):
        self.bad("trait\tends", 1, 1)
        self.bad("trait ends\t", 1, 7)
        self.bad("trait ends\r\n", 1, 7)
        self.bad("trait ends\rtrait mixed", 1, 7)
        self.bad("\r\ntrait ends", 1, 1)
        self.bad("trait ends\n\x0b", 2, 1)
        self.bad("trait ends\n  \u00a0", 2, 3)
        self.bad("trait ends\x0ctrait mixed", 1, 7)
        self.bad("trait ends\u2028trait mixed", 1, 7)
        self.bad("trait ends\x85", 1, 7)
        self.bad("\ttrait ends", 1, 1)
        self.bad("\ufefftrait ends", 1, 1)

    def test_spans(self):
        for low in range(10):
            self.assertEqual(read_table(f"option a - nothing {low}..").options[0].low, low)
            for high in range(10):
                text = f"operand a any {low}..{high}"
                if high > 0 and high >= low:
                    told = read_table(text).operands[0]
                    self.assertEqual((told.few, told.many), (low, high))
                else:
                    self.bad(text, 1, 15)
        self.assertIsNone(read_table("operand a any 0..").operands[0].many)
        for word in ["0", "1", "..", "..1", "0.", "0.1", "0...", "0..10", "10..", "0..a", "a..", "-1..", "0..-1", "00..",
                     "1..01", "0..1..", "+1..", "0,1", "0-1", "0..\u0661", "\u0661..", "0..\u00b2", "x", "0..1x", "1...", "0..+"]:
            self.bad(f"operand a any {word} x", 1, 15)
            self.bad(f"option a - nothing {word}", 1, 20)
            self.bad(f"option a - some any {word} 0..", 1, 21)

    def test_kinds(self):
        for word, kind in [("number -99..99", ("number", -99, 99)), ("number 0..0", ("number", 0, 0)),
                           ("number -5..-5", ("number", -5, -5)), ("number -12..-3", ("number", -12, -3)), ("any", ANY),
                           ("chosen a", ("chosen", "a")), ("chosen b,a,any", ("chosen", "b", "a", "any")),
                           ("chosen a,b,c,d,e,f,g,h", ("chosen", *"abcdefgh")),
                           ("chosen abcdefgh,a1", ("chosen", "abcdefgh", "a1"))]:
            self.assertEqual(read_table(f"operand x {word} 1..1"), Table([], [Operand("x", kind)]))
            self.assertEqual(read_table(f"option x - one {word} 0.."), Table([Option("x", "", ("one", kind))]))
            self.assertEqual(read_table(f"option x - some {word} 1..2 0.."),
                             Table([Option("x", "", ("some", kind, 1, 2))]))
        for word in ["1..0", "-1..-2", "-100..0", "0..100", "-0..1", "0..-0", "00..1", "0..01", "+1..2", "1", "..", "1..",
                     "..1", "1.2", "1...2", "1..2..3", "a..b", "any", "1..\u0662", "1,2", "1-2", "1.. 2"]:
            self.bad(f"operand x number {word} 1..1", 1, 18)
        for word in ["a,", ",a", ",", "a,,b", "a,a", "a,b,a", "a,b,c,d,e,f,g,h,i", "A", "abcdefghi", "1", "a,1b", "a;b",
                     "a,B", "-", "a-b", "\u00e4", "a.b"]:
            self.bad(f"operand x chosen {word} 1..1", 1, 18)
        for word in ["Any", "none", "number5..6", "chosena", "a", "some", "one", "-", "anys"]:
            self.bad(f"operand x {word} 1..1", 1, 11)
            self.bad(f"option x - maybe {word} 1..1", 1, 18)

    def test_option_lines(self):
        for text in ["option@", "option @A", "option @abcdefghi", "option @1", "option @- a nothing 0..", "option a@",
                     "option a @ab nothing 0..", "option a @A nothing 0..", "option a @1 nothing 0..", "option a @-- one",
                     "option a @\u00e4 nothing", "option a -@", "option a b@", "option a b @any 0..", "option a b @Nothing",
                     "option a b @many any 0..", "option a b nothing@", "option a b nothing @any 0..",
                     "option a b nothing 0.. @0..", "option a b nothing 0.. @x y", "option a b one@",
                     "option a b one @0..", "option a b one any@", "option a b one any @any", "option a b one any 0.. @1..",
                     "option a b maybe@", "option a b maybe any@", "option a b maybe any @x", "option a b maybe chosen@",
                     "option a b maybe number@", "option a b maybe number 1..2@", "option a b maybe number @1.. 0..",
                     "option a b maybe any 0..1 @x", "option a b some@", "option a b some any@",
                     "option a b some any @0..0 0..", "option a b some any 0..@", "option a b some any 0.. @x",
                     "option a b some any 0.. 0.. @0..", "option a b some chosen a@", "option a b some chosen a 0..1@",
                     "option a b some number 1..2 0..1 @2..1", "option a b one @nothing 0.."]:
            self.bad_at(text)

    def test_operand_lines(self):
        for text in ["operand@", "operand @A", "operand @1 any 0..", "operand a@", "operand a @0..", "operand a @one any 0..",
                     "operand a any@", "operand a any @x", "operand a any 0.. @0..", "operand a any 0..1 @x y",
                     "operand a chosen@", "operand a chosen x@", "operand a chosen @0.. 0..", "operand a number@",
                     "operand a number 1..2@", "operand a number 1..2 @2", "operand a @- any 0.."]:
            self.bad_at(text)

    def test_trait_lines(self):
        for text in ["trait@", "trait @Mixed", "trait @mix", "trait @option", "trait mixed @ends", "trait mixed @mixed",
                     "trait @mixed,ends", "trait @none"]:
            self.bad_at(text)
        for trait in ["abbreviated", "guessed", "dashed", "ends", "mixed"]:
            self.assertEqual(read_table(f"trait {trait}").traits, (trait,))
        for trait in ["alone", "far"]:
            self.assertEqual(read_table(f"trait {trait}\ncommand go").traits, (trait,))

    def test_a_trait_twice_in_a_table(self):
        self.bad("trait ends\ntrait mixed\n  trait   ends", 3, 11)
        self.bad("trait ends\ncommand go\ntrait ends\ntrait ends", 4, 7)
        self.bad("trait far\ntrait far", 2, 7)
        sub = Table([], [], None, ["ends"])
        self.assertEqual(read_table("trait ends\ncommand go\ntrait ends\ncommand on\ntrait ends"),
                         Table([], [], {"go": sub, "on": sub}, ["ends"]))

    def test_condition_lines(self):
        for text in ["needs@", "needs @A", "needs a@", "needs a @-", "needs a b @c", "needs a @B c", "needs @--a b",
                     "without@", "without @1 b", "without a@", "without a @b,c", "without a b @c",
                     "some@", "some @A", "some a @B", "some a b c d e f g h i @J k", "some @a,b", "some a @abcdefghi"]:
            self.bad_at(text)

    def test_command_lines(self):
        for text in ["command@", "command @A", "command @abcdefghi", "command go @on", "command @-", "command go @option"]:
            self.bad_at(text)
        self.bad("command go\ncommand on\n command  go", 3, 11)
        self.bad("command go\ncommand go x", 2, 9)

    def test_first_words(self):
        for text in ["@x", "@Option a - nothing 0..", "@options", "@- a", "@traits ends", "@commands", "@any", "@alone",
                     "@option: a", "@Needs a b", "@need a b", "@=", "@a option"]:
            self.bad_at(text)

    def test_the_first_wrong_word_of_the_first_wrong_line(self):
        self.bad("trait x\noption", 1, 7)
        self.bad("option a b nothing 0..\n\n\ntrait mixed ends\noption", 4, 13)
        self.bad("option A B C D", 1, 8)
        self.bad("option a - nothing 0.. 1.. 2..", 1, 24)
        self.bad("command go\noption a\ncommand go", 2, 9)

    def test_the_place_behind_the_last_word_if_one_lacks(self):
        self.bad("option", 1, 7)
        self.bad("option   ", 1, 7)
        self.bad("  option a  # more", 1, 11)
        self.bad("  option a# more", 1, 11)
        self.bad("\n needs   ab  ", 2, 12)
        self.bad("command", 1, 8)

    def test_what_is_no_string(self):
        for text in [None, 1, b"trait ends", ["trait ends"], ("",), True, {}]:
            self.bad(text, 0, 0)

    def test_tables_that_are_not_as_described(self):
        nine = "\n".join(f"option {name} - nothing 0.." for name in "abcdefghi")
        self.bad_part("options", nine)
        self.bad_part("operands", "\n".join(f"operand {name} any 0.." for name in "abcd"))
        self.bad_part("commands", "\n".join(f"command {name}" for name in "abcd"))
        self.bad_part("commands", "command go\n" + "\n".join(f"option {name} - nothing 0.." for name in "abcde"))
        self.bad_part("traits", "trait abbreviated\ntrait guessed")
        self.bad_part("traits", "trait alone")
        self.bad_part("traits", "trait far")
        self.bad_part("conditions", "needs a b")
        self.bad_part("conditions", "option a - nothing 0..\nneeds a a")
        self.bad_part("conditions", "option a - nothing 0..\nsome a a")
        self.bad_part("conditions", "option a - nothing 0..\noperand b any 0..\nwithout a b")
        self.bad_part("conditions", "option a - nothing 0..\n" + "some a\n" * 4)
        self.bad_part("conditions", nine[:nine.index("\noption i")] + "\nsome a b c d e f g h i")
        self.bad_part("names", "option a - nothing 0..\noperand a any 0..")
        self.bad_part("names", "option a - nothing 0..\ncommand go\noperand a any 0..")
        self.bad_part("letters", "option a x nothing 0..\noption b x nothing 0..")
        self.bad_part("letters", "option a x nothing 0..\ntrait far\ncommand go\noption b x nothing 0..")

    def test_commands_tables_that_are_not_as_described(self):
        self.bad_part("traits", "command go\ntrait alone")
        self.bad_part("traits", "command go\ntrait far")
        self.bad_part("conditions", "option a - nothing 0..\noption b - nothing 0..\ncommand go\nneeds a b")
        self.bad_part("options", "command go\n" + "\n".join(f"option {name} - nothing 0.." for name in "abcdefghi"))
        self.bad_part("names", "command go\noption a - nothing 0..\noption a - nothing 0..")

    def test_commands_tables_are_told_as_they_stand_ahead_of_the_table(self):
        outer = "trait abbreviated\ntrait guessed\n"
        self.bad_part("letters", outer + "command z\noption a x nothing 0..\noption b x nothing 0..\ncommand a\ntrait far")
        self.bad_part("traits", outer + "command a\ntrait far\ncommand b\nneeds a b")
        self.bad_part("conditions", outer + "command b\nneeds a b\ncommand a\ntrait far")
        self.bad_part("names", "option a - nothing 0..\noption a - nothing 0..\ncommand go")

    def test_bad_texts_go_ahead_of_bad_parts(self):
        self.bad("trait alone\ntrait abbreviated\ntrait guessed\ncommand go\ntrait far\ncommand", 6, 8)
        self.bad("needs a a\nx", 2, 1)


class Writing(unittest.TestCase):
    def test_the_text_sign_by_sign(self):
        go = Table([Option("deep", "d", ("maybe", ("number", -9, -1)), 0, 9)], [], None, ["guessed", "dashed"])
        at = Table([Option("x", "", NOTHING), Option("w", "", NOTHING)], [Operand("from", ("number", 0, 0), 2, 9)], None, [],
                   [("some", ("x", "w"))])
        options = [Option("out", "o", ("one", ANY), 1), Option("force", "f", NOTHING, 0, 1),
                   Option("in", "", ("maybe", ("chosen", "b", "a")), 2, 3),
                   Option("n", "n", ("some", ("number", -99, 99), 0, None)), Option("m", "", ("some", ANY, 1, 2), 9, 9)]
        operands = [Operand("to", ("chosen", "x")), Operand("file", ANY, 0, None)]
        conditions = [("without", "out", "in"), ("some", ("in",)), ("needs", "force", "out")]
        table = Table(options, operands, {"go": go, "at": at}, ["far", "ends", "mixed"], conditions)
        self.assertEqual(write_table(table), (
            "option out o one any 1..\n"
            "option force f nothing 0..1\n"
            "option in - maybe chosen b,a 2..3\n"
            "option n n some number -99..99 0.. 0..\n"
            "option m - some any 1..2 9..9\n"
            "operand to chosen x 1..1\n"
            "operand file any 0..\n"
            "trait ends\n"
            "trait far\n"
            "trait mixed\n"
            "without out in\n"
            "some in\n"
            "needs force out\n"
            "command at\n"
            "option x - nothing 0..\n"
            "option w - nothing 0..\n"
            "operand from number 0..0 2..9\n"
            "some x w\n"
            "command go\n"
            "option deep d maybe number -9..-1 0..9\n"
            "trait dashed\n"
            "trait guessed\n"))
        self.assertEqual(read_table(write_table(table)), table)

    def test_the_empty_table(self):
        self.assertEqual(write_table(Table([])), "")
        self.assertEqual(write_table(Table([], [], {"go": Table([])})), "command go\n")

    def test_what_is_written_is_read_back(self):
        for seed, table in tables(0, 400):
            text = write_table(table)
            self.assertEqual(read_table(text), table, seed)
            self.assertEqual(write_table(read_table(text)), text, seed)


if __name__ == "__main__":
    unittest.main()
