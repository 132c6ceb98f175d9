"""Settings: point [39]."""

import unittest

from switchyard.errors import BadSetting
from switchyard.readings import Reading, readings
from switchyard.settings import read_settings, settled, write_settings
from switchyard.tables import Operand, Option, Table
from tests.samples import sample_lists, small_tables, tables

ANY = ("any",)
NOTHING = ("nothing",)
CHOSEN = ("chosen", "a", "b")
NUMBER = ("number", -9, 9)


def option(name, letter="", takes=NOTHING, low=0, high=None):
    return Option(name, letter, takes, low, high)


TABLE = Table(
    [option("force", "f"), option("to", "t", ("one", ANY)), option("level", "l", ("maybe", NUMBER)),
     option("add", "a", ("some", CHOSEN, 0, 2)), option("put", "p", ("some", ANY, 2, None)), option("once", "", NOTHING, 1, 1),
     option("twice", "", ("maybe", ANY), 0, 2)],
    [Operand("file", ANY, 0, None)], {"go": Table([option("x", "x")])}, ("far",), [("needs", "force", "to")],
)


class Reads(unittest.TestCase):
    def check(self, text, **comings):
        told = read_settings(TABLE, text)
        self.assertEqual(told, comings)
        self.assertEqual(list(told), sorted(told))
        for rows in told.values():
            self.assertIsInstance(rows, tuple)
            for row in rows:
                self.assertIsInstance(row, tuple)

    def check_bad(self, text, line=1):
        with self.assertRaises(BadSetting) as caught:
            read_settings(TABLE, text)
        self.assertEqual(caught.exception.line, line)
        if isinstance(text, str):
            with self.assertRaises(BadSetting) as caught:
                read_settings(TABLE, "# first\nforce\n\n" + text)
            self.assertEqual(caught.exception.line, line + 3)

    def test_nothing(self):
        self.check("force", force=((),))
        self.check("force\nforce", force=((), ()))
        for line in ["force=", "force =", "force = x", "force x", "force ''", "forc", "force2"]:
            self.check_bad(line)

    def test_one(self):
        self.check("to=x", to=(("x",),))
        self.check("to = x", to=(("x",),))
        self.check("to   =x   ", to=(("x",),))
        self.check("to =   x", to=(("x",),))
        self.check("to=''", to=(("",),))
        self.check("to=--x", to=(("--x",),))
        self.check("to==", to=(("=",),))
        self.check("to = a=b", to=(("a=b",),))
        for line in ["to", "to=", "to = ", "to x", "to = x y", "to = '' ''", "to x = y", "to 'x'"]:
            self.check_bad(line)

    def test_maybe(self):
        self.check("level\nlevel=3\nlevel = -9", level=((), ("3",), ("-9",)))
        for line in ["level=", "level =", "level = ''", "level = 10", "level = 1 2", "level = x", "level 3", "level = 03", "level = -0"]:
            self.check_bad(line)

    def test_some(self):
        self.check("add=", add=((),))
        self.check("add = a\nadd=a b\nadd =", add=(("a",), ("a", "b"), ()))
        for line in ["add", "add = a b a", "add = c", "add = a c", "add = ''", "put", "put=", "put = x"]:
            self.check_bad(line)
        self.check("put = x y\nput = 'x y' '' z w", put=(("x", "y"), ("x y", "", "z", "w")))

    def test_quotes_and_backslashes(self):
        self.check("to = 'my home'", to=(("my home",),))
        self.check('to = "my home"', to=(("my home",),))
        self.check("to = my\\ home", to=(("my home",),))
        self.check("to = it\\'s", to=(("it's",),))
        self.check('to = "a\\"b\\\\c\\d"', to=(('a"b\\c\\d',),))
        self.check("to = a'b'\"c\"", to=(("abc",),))
        self.check("to = '#x'\nput = # x", to=(("#x",),), put=(("#", "x"),))
        for line in ["to = 'x", 'to = "x', "to = x\\", "to = '", "put = a b 'c", 'add = a "', "to = x\\ "]:
            self.check_bad(line)

    def test_a_backslash_ahead_of_blanks_at_the_end_is_the_last_sign(self):
        # blanks at both ends of a line are left out first
        self.check_bad("to = x\\   ")
        self.check("to = 'x\\ '  ", to=(("x\\ ",),))

    def test_blanks_remarks_and_empty_lines(self):
        self.check("")
        self.check("\n\n")
        self.check("   \n  # force\n#\n#force=x\n   force   \n", force=((),))
        self.check("  to  =  x  ", to=(("x",),))
        self.check("force\n", force=((),))
        self.check("\nforce", force=((),))
        self.check_bad("force # not a remark")
        self.check_bad("=")
        self.check_bad("= x")
        self.check_bad("'force'")

    def test_line_feeds_alone_end_lines(self):
        for sign in ["\r", "\x0b", "\x0c", "\x1c", "\x85", "\u2028", "\t", "\u00a0"]:
            self.check_bad("force" + sign)
            self.check_bad(sign + "force")
            self.check_bad("force" + sign + "force")
            self.check_bad("to" + sign + "=x")
            self.check(f"to=x{sign}y", to=((f"x{sign}y",),))
            self.check(f"to={sign}", to=((sign,),))
            self.check_bad(sign)
        self.check_bad("force\r\nforce")

    def test_names(self):
        for line in ["x", "x=1", "file", "file=a", "go", "Force", "--force", "-f", "f", "", "#"]:
            if line in ["", "#"]:
                self.check(line)
            else:
                self.check_bad(line)

    def test_one_coming_too_many(self):
        self.check("once\ntwice\ntwice=x", once=((),), twice=((), ("x",)))
        self.check_bad("once\nonce", 2)
        self.check_bad("once\nforce\n\n#\nonce", 5)
        self.check_bad("twice\ntwice=x\ntwice=y", 3)

    def test_the_first_wrong_line(self):
        self.check_bad("force\nx\nto", 2)
        self.check_bad("force\nto\nx", 2)
        self.check_bad("once\nto=x\nonce\nto", 3)
        self.check_bad("x\nonce\nonce", 1)

    def test_bounds_and_conditions_of_the_table_do_not_matter(self):
        self.check("force", force=((),))
        self.check("level", level=((),))

    def test_order_and_names(self):
        self.check("to=b\nforce\nto=a\nadd=\nforce", add=((),), force=((), ()), to=(("b",), ("a",)))

    def test_what_is_no_string(self):
        for text in [None, 7, b"force", ["force"], ("force",), {}]:
            self.check_bad(text, 0)


class Writes(unittest.TestCase):
    def check(self, comings, text):
        self.assertEqual(write_settings(TABLE, comings), text)
        self.assertEqual(read_settings(TABLE, text), comings)

    def test_texts(self):
        self.check({}, "")
        self.check({"force": ((),)}, "force\n")
        self.check({"force": ((), ()), "to": (("x",),)}, "force\nforce\nto = x\n")
        self.check({"to": (("",), ("a b",), ("it's",))}, "to = ''\nto = 'a b'\nto = 'it'\\''s'\n")
        self.check({"level": ((), ("-9",))}, "level\nlevel = -9\n")
        self.check({"add": ((), ("a", "b"))}, "add =\nadd = a b\n")
        self.check({"put": (("x", "", "#"),)}, "put = x '' '#'\n")
        self.check({"twice": ((), ("",))}, "twice\ntwice = ''\n")

    def test_the_tables_order(self):
        self.check({"add": ((),), "force": ((),), "once": ((),), "to": (("x",),)}, "force\nto = x\nadd =\nonce\n")
        self.assertEqual(write_settings(TABLE, {"to": (("x",),), "force": ((),)}), "force\nto = x\n")

    def test_what_is_written_is_read_back(self):
        found = 0
        for seed, table in [*tables(0, 150), *small_tables(0, 150)]:
            own = [one.name for one in table.options]
            for words in sample_lists(table, seed, 20):
                for reading in readings(table, words):
                    comings = {name: rows for name, rows in reading.options.items() if rows and name in own}
                    text = write_settings(table, comings)
                    self.assertEqual(read_settings(table, text), comings, (seed, words))
                    self.assertEqual(text.count("\n"), sum(len(rows) for rows in comings.values()))
                    found += bool(comings)
        self.assertGreater(found, 300)


class Settled(unittest.TestCase):
    def test_options_that_did_not_come(self):
        reading = Reading({"a": (), "b": ((),), "c": ()}, {"f": ("x",)}, "go")
        settings = {"a": (("1",), ("2",)), "b": (("3",),), "d": ((),), "f": (("y",),)}
        told = settled(reading, settings)
        self.assertEqual(told, Reading({"a": (("1",), ("2",)), "b": ((),), "c": ()}, {"f": ("x",)}, "go"))
        self.assertEqual(reading, Reading({"a": (), "b": ((),), "c": ()}, {"f": ("x",)}, "go"))
        self.assertEqual(settings, {"a": (("1",), ("2",)), "b": (("3",),), "d": ((),), "f": (("y",),)})

    def test_nothing_to_lay(self):
        for reading in [Reading({}, {}, ""), Reading({"a": ()}, {"f": ()}, ""), Reading({"a": ((),)}, {}, "go")]:
            told = settled(reading, {})
            self.assertEqual(told, reading)
            self.assertIsNot(told, reading)
            self.assertIsNot(told.options, reading.options)
        self.assertEqual(settled(Reading({}, {}, ""), {"a": ((),)}), Reading({}, {}, ""))

    def test_settings_under_readings(self):
        table = Table(TABLE.options, TABLE.operands)
        reading = readings(table, ["--once", "-t", "x", "y"])[0]
        laid = settled(reading, read_settings(table, "to = z\nforce\nlevel = 3\nlevel"))
        self.assertEqual(laid.options, {
            "add": (), "force": ((),), "level": (("3",), ()), "once": ((),), "put": (), "to": (("x",),), "twice": (),
        })
        self.assertEqual((laid.operands, laid.command), ({"file": ("y",)}, ""))


if __name__ == "__main__":
    unittest.main()
