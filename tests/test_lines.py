"""Lines: points [16] and [17]."""

import unittest
from itertools import product

from switchyard.errors import BadLine, BadWords
from switchyard.lines import shortest_line, split_line, write_line

LETTERS = "ABCDEFGHIJKLMNOPQRSTUVWXYZabcdefghijklmnopqrstuvwxyz"
FIGURES = "0123456789"


class Splitting(unittest.TestCase):
    def check(self, line, *words):
        told = split_line(line)
        self.assertIsInstance(told, list)
        self.assertEqual(told, list(words), line)

    def check_refused(self, line, column):
        with self.assertRaises(BadLine) as caught:
            split_line(line)
        self.assertEqual(caught.exception.column, column, line)

    def test_words_and_blanks(self):
        self.check("")
        self.check(" ")
        self.check("   ")
        self.check("a", "a")
        self.check("a b", "a", "b")
        self.check("  ab   c  ", "ab", "c")
        self.check("a 'b c' d", "a", "b c", "d")

    def test_only_blanks_end_words(self):
        self.check("a\nb", "a\nb")
        self.check("\n", "\n")
        self.check("a\tb\rc", "a\tb\rc")
        self.check("a#b #c $d *;", "a#b", "#c", "$d", "*;")
        self.check("\u00e9 \u00a0", "\u00e9", "\u00a0")

    def test_a_backslash_outside_quotes(self):
        self.check("\\a", "a")
        self.check("\\ ", " ")
        self.check("a\\ b", "a b")
        self.check("\\\\", "\\")
        self.check("\\'", "'")
        self.check('\\"', '"')
        self.check("\\\n", "\n")
        self.check("\\ \\ a \\ ", "  a", " ")

    def test_single_quotes(self):
        self.check("''", "")
        self.check("'a'", "a")
        self.check("' '", " ")
        self.check("'\\'", "\\")
        self.check("'\\a\\\\'", "\\a\\\\")
        self.check("'\"'", '"')
        self.check("'\n'", "\n")
        self.check("'a''b'", "ab")

    def test_double_quotes(self):
        self.check('""', "")
        self.check('"a"', "a")
        self.check('" "', " ")
        self.check('"\'"', "'")
        self.check('"\n"', "\n")
        self.check('"\\""', '"')
        self.check('"\\\\"', "\\")
        self.check('"\\a"', "\\a")
        self.check('"\\ "', "\\ ")
        self.check('"\\\'"', "\\'")
        self.check('"\\\n"', "\\\n")
        self.check('"\\\\a\\\\\\""', '\\a\\"')

    def test_quotes_within_a_word(self):
        self.check("a'b'c", "abc")
        self.check("a\"b\"c", "abc")
        self.check("a'' b", "a", "b")
        self.check("'' ''", "", "")
        self.check("a '' \"\" b", "a", "", "", "b")
        self.check("''\"\"", "")
        self.check("'a'\\ \"b\"", "a b")

    def test_open_quotes_and_a_last_backslash(self):
        self.check_refused("'", 1)
        self.check_refused('"', 1)
        self.check_refused("\\", 1)
        self.check_refused("a 'b", 3)
        self.check_refused('a"b c', 2)
        self.check_refused("''  'b\"", 5)
        self.check_refused("'a' \"b'", 5)
        self.check_refused('"a\\"', 1)
        self.check_refused('x "a\\', 3)
        self.check_refused("'a\\", 1)
        self.check_refused("ab\\", 3)
        self.check_refused("\\\\ \\", 4)
        self.check_refused("\n'", 2)

    def test_no_string(self):
        for thing in [None, 1, b"a", ["a"], ("a",), True]:
            self.check_refused(thing, 0)


class Writing(unittest.TestCase):
    def test_signs_that_stand_bare(self):
        for sign in LETTERS + FIGURES + "-_=./,:+@":
            self.assertEqual(write_line([sign]), sign)
            self.assertEqual(write_line(["a" + sign, sign + "b"]), f"a{sign} {sign}b")

    def test_signs_that_do_not(self):
        for sign in " \n\t\\\"#$&*()!?~^|<>;[]{}`\u00e9\u00df\u0660\u00b2" + "%":
            self.assertEqual(write_line([sign]), f"'{sign}'")
            self.assertEqual(write_line(["a" + sign + "b"]), f"'a{sign}b'")

    def test_several_words(self):
        self.assertEqual(write_line([]), "")
        self.assertEqual(write_line(()), "")
        self.assertEqual(write_line([""]), "''")
        self.assertEqual(write_line(["", ""]), "'' ''")
        self.assertEqual(write_line(("a", "b c", "d")), "a 'b c' d")

    def test_single_quotes(self):
        self.assertEqual(write_line(["'"]), "''\\'''")
        self.assertEqual(write_line(["it's"]), "'it'\\''s'")
        self.assertEqual(write_line(["''"]), "''\\'''\\'''")

    def test_what_is_written_is_read_back(self):
        words = ["".join(signs) for many in range(4) for signs in product("a- '\"\\\n", repeat=many)]
        for word in words:
            self.assertEqual(split_line(write_line([word])), [word])
        self.assertEqual(split_line(write_line(words)), words)

    def test_wrong_words(self):
        for made in [write_line, shortest_line]:
            for words, number in [("a", None), (None, None), ({"a": 1}, None), (7, None),
                                  ([1], 0), (["a", None, 2], 1), (("a", "b", b"c"), 2)]:
                with self.assertRaises(BadWords) as caught:
                    made(words)
                self.assertEqual(caught.exception.number, number, words)


class Shortest(unittest.TestCase):
    def test_against_all_lines_of_up_to_seven_signs(self):
        least = {}
        for many in range(8):
            for signs in product(" \"'\\a", repeat=many):
                line = "".join(signs)
                try:
                    least.setdefault(tuple(split_line(line)), line)
                except BadLine:
                    continue
        self.assertGreater(len(least), 3000)
        for words, line in least.items():
            self.assertEqual(shortest_line(words), line, words)

    def test_against_all_lines_of_one_word_with_other_signs(self):
        least = {}
        for many in range(7):
            for signs in product("\n \"#'\\z~", repeat=many):
                if "".join(signs).count("z") < 2:
                    try:
                        words = split_line("".join(signs))
                    except BadLine:
                        continue
                    if len(words) == 1:
                        least.setdefault(words[0], "".join(signs))
        for word, line in least.items():
            self.assertEqual(shortest_line([word]), line, word)

    def test_ties(self):
        self.assertEqual(shortest_line([""]), '""')
        self.assertEqual(shortest_line(["  "]), '"  "')
        self.assertEqual(shortest_line([" "]), "\\ ")
        self.assertEqual(shortest_line(["a b c"]), '"a b "c')
        self.assertEqual(shortest_line(["''"]), '"\'\'"')
        self.assertEqual(shortest_line(['""']), "'\"\"'")
        self.assertEqual(shortest_line(["\\ \\ a"]), '"\\ \\ "a')
        self.assertEqual(shortest_line(["\\\\\\"]), "'\\\\\\'")

    def test_no_words(self):
        self.assertEqual(shortest_line([]), "")
        self.assertEqual(shortest_line(()), "")

    def test_long_words(self):
        self.assertEqual(shortest_line(["a" * 5000, " " * 5000]), "a" * 5000 + ' "' + " " * 5000 + '"')
        self.assertEqual(shortest_line(["'" * 3000]), '"' + "'" * 3000 + '"')
        long = ("'" * 5 + '"' * 5) * 500
        self.assertEqual(shortest_line([long]), ("\"'''''\"" + "'\"\"\"\"\"'") * 500)
        word = "it's \"a\\ b\" \\\\ " * 700
        self.assertEqual(split_line(shortest_line([word, word])), [word, word])
        self.assertLess(len(shortest_line([word])), len(write_line([word])))


if __name__ == "__main__":
    unittest.main()
