"""The nearest list: point [34]."""

import unittest
from random import Random

from switchyard.errors import BadPart, BadWords, TooLarge
from switchyard.machines import alphabet, measures
from switchyard.mending import Mended, mend
from switchyard.readings import all_readings
from switchyard.tables import Operand, Option, Table
from tests.brute import changes_between, length_of, lists_read, row_of, words_of
from tests.samples import small_tables

ANY = ("any",)
NOTHING = ("nothing",)
CHOSEN = ("chosen", "a", "b")
FIGURE = ("number", 0, 9)


def option(name, letter="", takes=NOTHING, low=0, high=None):
    return Option(name, letter, takes, low, high)


def operand(name, kind=ANY, few=0, many=None):
    return Operand(name, kind, few, many)


def best_of(rows, words):
    """The number of changes, the length and the row of the nearest list."""
    return min([(changes_between(row_of(words), row), len(row), [signs for signs in row]) for row in rows], default=None)


class Mends(unittest.TestCase):
    def check(self, table, words, number, *mended, most=None):
        """What is told, and that all lists up to the length that matters tell it."""
        told = mend(table, words, 9)
        self.assertIsInstance(told, Mended)
        self.assertEqual((told.number, told.words), (number, mended))
        self.assertEqual(changes_between(row_of(words), row_of(mended)), number)
        self.assertNotEqual(all_readings(table, mended), [])
        for at in range(10):
            self.assertEqual(mend(table, words, at), None if at < number else told)
        length = length_of(words) + number - 1 if most is None else most
        if length <= 9:
            signs = alphabet([table], "".join(words))
            rows = [*lists_read(table, signs, length), row_of(mended)]
            self.assertEqual(best_of(rows, words), (number, length_of(mended), list(row_of(mended))))

    def test_lists_that_have_a_reading(self):
        table = Table([option("add", "a", ("some", ANY, 0, 2))], [operand("f")])
        for words in [[], ["x"], ["-a"], ["-a", "", "x", "-"], ["--add", "y"], ("x",) * 20]:
            self.check(table, words, 0, *words, most=5)

    def test_one_change(self):
        table = Table([option("add", "a"), option("b", "b", ("one", CHOSEN))], [operand("f", FIGURE, 0, 1)])
        self.check(table, ["--addd"], 1, "--add")
        self.check(table, ["--ad"], 1, "--add")
        self.check(table, ["--axd"], 1, "--add")
        self.check(table, ["-b", "c"], 1, "-b", "a")
        self.check(table, ["-b"], 1, "-a")
        self.check(table, ["-b", ""], 1, "-ba")
        self.check(table, ["-bba"], 1, "-ba")
        self.check(table, ["-q"], 1, "-a")
        self.check(table, ["x"], 1, "0")
        self.check(table, ["00"], 1, "0")

    def test_changes_of_ends(self):
        table = Table([option("add", "a")], [operand("f", CHOSEN, 2, 2)])
        self.check(table, ["ab"], 1, "a", "b")
        self.check(table, ["a", "b", ""], 1, "a", "b")
        self.check(table, ["axb"], 1, "a", "b")
        self.check(table, ["", "a", "b"], 1, "a", "b")
        self.check(table, ["-", "a", "a", "b"], 1, "-a", "a", "b")
        self.check(table, ["-aab"], 2, "a", "b")
        self.check(table, [], 4, "a", "a")
        self.check(Table([]), ["", ""], 2)
        self.check(Table([]), ["ab", "c"], 5)
        self.check(Table([], [operand("f", ANY, 3, 3)]), ["a", "b"], 1, "", "", "b")

    def test_several_changes(self):
        table = Table([option("force", "f", NOTHING, 0, 1)], [operand("to", CHOSEN, 1, 1)])
        self.check(table, ["--fore", "c"], 2, "--force", "a")
        self.check(table, ["--frce", "b", "x"], 3, "--force", "b")
        self.check(table, ["-f", "-f"], 2, "-f", "a")
        self.check(table, ["q"], 1, "a")
        self.check(table, [], 2, "a")

    def test_the_shortest_list_stands_first_among_as_few_changes(self):
        table = Table([option("a", "a"), option("ab")])
        self.check(table, ["-"], 1, "-a")
        self.check(table, ["--"], 1, "-a")
        self.check(table, ["-b"], 1, "-a")
        self.check(table, ["x"], 2)
        two = Table([], [operand("f", ("chosen", "ab", "b", "abcd"), 1, 1)])
        self.check(two, ["abc"], 1, "ab")
        self.check(two, ["a"], 1, "b")

    def test_the_first_list_stands_first_among_as_short_ones(self):
        table = Table([option("b", "b"), option("a", "a")], [operand("f", FIGURE)])
        self.check(table, ["-x"], 1, "-a")
        self.check(table, ["7x"], 1, "7")
        self.check(table, ["x"], 1, "0")

    def test_signs_that_the_table_does_not_know(self):
        table = Table([option("a", "a", ("one", ANY), 1)], [operand("f", CHOSEN)])
        self.check(table, ["-a!"], 0, "-a!")
        self.check(table, ["+a", "!"], 1, "-a", "!")
        self.check(table, ["-a", "Z", "Z"], 1, "-a", "ZZ")
        self.check(table, ["-a", "!", "?"], 1, "-a", "!?")

    def test_no_list_at_all(self):
        none = Table([option("a", "a", NOTHING, 1), option("b", "b", NOTHING, 1)], [operand("f")], None, (), [("without", "a", "b")])
        for words in [[], ["-a"], ["x", "-ab"]]:
            for most in [0, 5, 9]:
                self.assertIsNone(mend(none, words, most))

    def test_lists_that_are_too_far(self):
        table = Table([], [operand("f", ("chosen", "abcdefgh", "bcdefghi"), 1, 1)])
        self.check(table, [], 9, "abcdefgh", most=9)
        self.check(table, ["q"], 8, "abcdefgh", most=9)
        two = Table([], [operand("f", ("chosen", "abcdefgh"), 2, 2)])
        self.assertIsNone(mend(two, [], 9))
        self.check(two, ["abcdefgh"], 9, "abcdefgh", "abcdefgh", most=9)
        self.check(two, ["abcdefghabcdefgh"], 1, "abcdefgh", "abcdefgh", most=9)

    def test_commands(self):
        table = Table([option("x", "x")], [], {"go": Table([option("y", "y")]), "gone": Table([], [operand("f", CHOSEN, 1, 1)])})
        self.check(table, ["gon"], 1, "go")
        self.check(table, ["gonea"], 1, "gone", "a")
        self.check(table, ["go", "-x"], 1, "go", "-y")
        self.check(table, ["-y", "go"], 1, "-x", "go")

    def test_lists_of_length_40(self):
        table = Table([option("add", "a")], [operand("f", CHOSEN)])
        self.check(table, ["a"] * 20, 0, *["a"] * 20, most=3)
        self.check(table, ["a"] * 15 + ["x"] * 5, 5, *["a"] * 20, most=3)
        self.assertIsNone(mend(table, ["x" * 39], 9))
        self.check(table, [""] * 9, 5, *["a"] * 4, most=3)
        self.assertIsNone(mend(table, [""] * 40, 9))

    def test_samples(self):
        found = {}
        for seed, table in small_tables(0, 60):
            rng = Random(seed)
            rows = {}
            for _ in range(5):
                signs = [*alphabet([table], "")[1:], "-", "-", "a", "!"]
                words = ["".join(rng.choices(signs, k=rng.randint(0, 3))) for _ in range(rng.choice([0, 1, 1, 2]))]
                known = alphabet([table], "".join(words))
                if known not in rows:
                    rows[known] = lists_read(table, known, 5)
                best = best_of(rows[known], words)
                most = rng.randint(0, 9)
                told = mend(table, words, most)
                if best is not None and best[0] <= 6 - length_of(words):
                    found[best[0]] = found.get(best[0], 0) + 1
                    expected = Mended(best[0], words_of(best[2])) if best[0] <= most else None
                    self.assertEqual(told, expected, (seed, words))
                elif told is not None:
                    number = changes_between(row_of(words), row_of(told.words))
                    self.assertEqual((number, number <= most), (told.number, True))
                    self.assertNotEqual(all_readings(table, told.words), [])
                    if best is not None:
                        self.assertLessEqual((number, length_of(told.words)), best[:2])
        self.assertGreater(min(found.get(number, 0) for number in [0, 1, 2, 3]), 3)

    def test_the_list_stays(self):
        words = ["x"]
        told = mend(Table([]), words, 9)
        self.assertEqual((words, told), (["x"], Mended(2, ())))
        self.assertEqual(mend(Table([]), ("x",), 9), told)

    def test_equality(self):
        self.assertEqual(Mended(1, ("a",)), Mended(1, ["a"]))
        for other in [Mended(2, ("a",)), Mended(1, ("b",)), None, (1, ("a",))]:
            self.assertFalse(Mended(1, ("a",)) == other)


class Refused(unittest.TestCase):
    def check(self, error, attribute, value, *arguments):
        with self.assertRaises(error) as caught:
            mend(*arguments)
        self.assertIs(type(caught.exception), error)
        self.assertEqual(getattr(caught.exception, attribute), value)

    def setUp(self):
        self.table = Table([option("a", "a")], [operand("f")])
        self.large = Table([option("a", "", ("some", ANY, 9, 9)), option("b", "", NOTHING, 0, 3)])
        self.assertEqual(measures(self.large)[0], 132)

    def test_each_thing_that_is_refused(self):
        self.check(TooLarge, "number", 132, self.large, [], 0)
        for words, number in [(None, None), ("x", None), ([0], 0), (["x", b"y"], 1)]:
            self.check(BadWords, "number", number, self.table, words, 0)
        for most in [-1, 10, True, False, None, "1", 100]:
            self.check(BadPart, "part", "most", self.table, ["x"], most)
        self.check(TooLarge, "number", 41, self.table, ["x" * 40], 0)
        self.check(TooLarge, "number", 41, self.table, [""] * 41, 9)
        self.check(TooLarge, "number", 100, self.table, ["x"] * 50, 9)
        self.assertEqual(mend(self.table, [""] * 40, 0).number, 0)

    def test_several_at_once(self):
        self.check(TooLarge, "number", 132, self.large, None, None)
        self.check(TooLarge, "number", 132, self.large, [""] * 50, True)
        self.check(BadWords, "number", 50, self.table, [*[""] * 50, 7], None)
        self.check(BadWords, "number", None, self.table, None, True)
        self.check(BadPart, "part", "most", self.table, [""] * 50, 10)


if __name__ == "__main__":
    unittest.main()
