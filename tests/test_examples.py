"""The examples of the document, as they stand there."""

import doctest
import unittest

from switchyard.clear import judge_clear
from switchyard.tables import Operand, Option, Table

INTRODUCTION = """
>>> from switchyard.readings import readings
>>> from switchyard.tables import Operand, Option, Table
>>> some = Option("add", "a", ("some", ("any",), 1, None), 0, 1)
>>> table = Table([some], [Operand("file", ("any",), 0, 1)], None, ("mixed",))
>>> [(one.options["add"], one.operands["file"]) for one in readings(table, ["-a", "x", "y"])]
[((('x',),), ('y',)), ((('x', 'y'),), ())]
"""

READINGS = """
>>> from switchyard.readings import readings
>>> from switchyard.tables import Option, Table
>>> table = Table([Option("verbose", "v", ("nothing",), 0, 2), Option("level", "l", ("maybe", ("number", 0, 9)))])
>>> [one.options for one in readings(table, ["-vl3", "--verbose"])]
[{'level': (('3',),), 'verbose': ((), ())}]
>>> readings(table, ["-vvv"]), len(readings(table, ["--level", "3"]))
([], 0)
"""

READER = """
>>> from switchyard.reader import read
>>> from switchyard.readings import readings
>>> from switchyard.tables import Operand, Option, Table
>>> table = Table([], [Operand("few", ("any",), 0, 2), Operand("last", ("any",))])
>>> read(table, ["a", "b"]) == readings(table, ["a", "b"])[0], len(readings(table, ["a", "b"])), read(table, ["a", "b"]).number
(False, 1, 2)
"""

HELP = """
>>> from switchyard.helptexts import help_text
>>> from switchyard.tables import Operand, Option, Table
>>> force, add = Option("force", "f", ("nothing",), 0, 1), Option("add", "", ("some", ("any",), 1, None))
>>> table = Table([force, add], [Operand("file", ("chosen", "a", "b"), 1, None)], None, (), [("needs", "add", "force")])
>>> print(help_text(table, "cp", 40), end="")
usage: cp [--force] [--add value...]...
  file...
  -f, --force           nothing, at most
                        1 times
      --add value...    any at least 1
                        words, any
                        number of times
  file                  chosen a,b, at
                        least 1 words
  --add needs --force
"""

LINES = r"""
>>> from switchyard.lines import shortest_line, split_line, write_line
>>> split_line("cp -- a\\ b 'it''s' \"\""), write_line(["a b", ""]), shortest_line(["a b", "a b c"])
(['cp', '--', 'a b', 'its', ''], "'a b' ''", 'a\\ b "a b "c')
"""

REASONS = """
>>> from switchyard.reasons import reasons
>>> from switchyard.tables import Operand, Option, Table
>>> table = Table([Option("level", "l", ("one", ("number", 0, 9)), 1, 1)], [Operand("file", ("any",))])
>>> reasons(table, ["-l10", "x"]), reasons(table, ["--lev", "x"]), reasons(table, ["x"])
((('value', 'level'), ('dash', 'file')), (('unknown', 'lev'), ('dash', 'file')), (('low', 'level'),))
"""

JUDGES = """
>>> from switchyard.clear import judge_clear
>>> from switchyard.greed import judge_greedy
>>> from switchyard.parting import judge_extends
>>> from switchyard.tables import Operand, Option, Table
>>> color = Option("color", "c", ("some", ("any",), 0, 1))
>>> told = judge_clear(Table([color], [Operand("file", ("any",), 0, 1)]))
>>> told.words, told.one.options, told.other.options
(('-c', ''), {'color': ((),)}, {'color': (('',),)})
>>> old = Table([Option("verify", "", ("nothing",))], [], {}, ["abbreviated"])
>>> new = Table([Option("verify", "", ("nothing",)), Option("version", "", ("nothing",))], [], {}, ["abbreviated"])
>>> judge_extends(old, new).words
('--v',)
"""

MENDING = """
>>> from switchyard.counting import count_lists
>>> from switchyard.mending import mend
>>> from switchyard.tables import Operand, Option, Table
>>> table = Table([Option("force", "f", ("nothing",), 0, 1)], [Operand("to", ("chosen", "a", "b"))])
>>> told = mend(table, ["--fore", "c"], 9)
>>> told.number, told.words, count_lists(table, 5)
(2, ('--force', 'a'), (0, 0, 2, 0, 0, 2))
"""

READERS = """
>>> from switchyard.readers import judge_readers
>>> from switchyard.tables import Operand, Option, Table
>>> file, rest = Operand("file", ("any",), 1, 1), Operand("rest", ("any",), 0, None)
>>> old, new = Table([Option("all", "a", ("nothing",))], [file, rest]), Table([Option("all", "a", ("maybe", ("any",)))], [file, rest])
>>> told = judge_readers(old, new)
>>> told.words, told.other.options["all"]
(('-aa', ''), (('a',),))
"""

MARKING = """
>>> from switchyard.marking import first_wrong, kinds_in
>>> from switchyard.tables import Operand, Option, Table
>>> table = Table([Option("out", "o", ("maybe", ("any",))), Option("all", "a", ("nothing",))], [Operand("file", ("any",))])
>>> kinds_in(table, ["-oa", "x"])
((('options', ('out',)), ('options', ('out', 'all'))), (('operand', ('file',)),))
>>> first_wrong(table, ["-a", "--alle", "x"]), first_wrong(table, ["-a"])
(1, None)
"""

SETTINGS = r"""
>>> from switchyard.firsts import first_lists
>>> from switchyard.settings import read_settings, write_settings
>>> from switchyard.tables import Option, Table
>>> table = Table([Option("force", "f", ("nothing",)), Option("to", "", ("some", ("any",), 0, None))])
>>> told = read_settings(table, "# mine\nto = 'my home' b\nforce\nto=")
>>> told, write_settings(table, told), first_lists(table, 3)
({'force': ((),), 'to': (('my home', 'b'), ())}, "force\nto = 'my home' b\nto =\n", ((), ('-f',), ('-ff',)))
"""


class Examples(unittest.TestCase):
    def check(self, text):
        example = doctest.DocTestParser().get_doctest(text, {}, "example", None, 0)
        told = []
        found = doctest.DocTestRunner(verbose=False).run(example, out=told.append)
        self.assertGreater(found.attempted, 1)
        self.assertEqual(found.failed, 0, "".join(told))

    def test_introduction(self):
        self.check(INTRODUCTION)

    def test_readings(self):
        self.check(READINGS)

    def test_reader(self):
        self.check(READER)

    def test_help(self):
        self.check(HELP)

    def test_lines(self):
        self.check(LINES)

    def test_reasons(self):
        self.check(REASONS)

    def test_judges(self):
        self.check(JUDGES)

    def test_mending_and_counting(self):
        self.check(MENDING)

    def test_readers(self):
        self.check(READERS)

    def test_marking(self):
        self.check(MARKING)

    def test_settings_and_first_lists(self):
        self.check(SETTINGS)

    def test_the_table_of_the_introduction_is_not_clear(self):
        some = Option("add", "a", ("some", ("any",), 1, None), 0, 1)
        table = Table([some], [Operand("file", ("any",), 0, 1)], None, ("mixed",))
        told = judge_clear(table)
        self.assertFalse(told)
        self.assertEqual(told.words, ("-a", "", ""))
        self.assertTrue(told.shows(table))


if __name__ == "__main__":
    unittest.main()
