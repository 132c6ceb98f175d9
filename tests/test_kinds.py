"""Names, types, and which words are of a type: point [3]."""

import unittest

from switchyard.kinds import is_of
from switchyard.tables import Operand
from switchyard.errors import BadPart


def is_kind(kind):
    try:
        return Operand("file", kind).kind == kind
    except BadPart as told:
        assert told.part == "kind"
        return False


def is_name(name):
    try:
        return Operand(name, ("any",)).name == name
    except BadPart as told:
        assert told.part == "name"
        return False


class Names(unittest.TestCase):
    def test_names(self):
        for name in ["a", "z", "a0", "a9", "az09az09", "abcdefgh", "n"]:
            self.assertTrue(is_name(name), name)

    def test_what_is_no_name(self):
        unlike = ["", "abcdefghi", "0a", "9", "A", "aB", "a-b", "a b", "-a", " a", "a ", "a_b", "a\n", "\u00e4", "a\u00e4",
                  "a\u0661", "\u00aa", "`", "{", "a/", "a:", "a`", "a{"]
        for name in unlike:
            self.assertFalse(is_name(name), name)

    def test_what_is_no_string_is_no_name(self):
        for name in [None, True, 1, b"a", ["a"], ("a",), {"a": 1}]:
            self.assertFalse(is_name(name), name)


class Kinds(unittest.TestCase):
    def test_types(self):
        good = [("any",), ("chosen", "a"), ("chosen", "b", "a"), ("chosen", *"abcdefgh"), ("number", 0, 0),
                ("number", -99, 99), ("number", -99, -99), ("number", 99, 99), ("number", -5, -4)]
        for kind in good:
            self.assertTrue(is_kind(kind), kind)

    def test_what_is_no_type(self):
        bad = [None, "any", "", (), ("all",), ("any", "a"), ("any", None), ["any"], ["chosen", "a"], ["number", 0, 1],
               ("chosen",), ("chosen", *"abcdefghi"), ("chosen", "a", "a"), ("chosen", "a", "b", "a"), ("chosen", ""),
               ("chosen", "A"), ("chosen", "abcdefghi"), ("chosen", ("a", "b")), ("chosen", ["a"]), ("chosen", 1),
               ("number",), ("number", 0), ("number", 0, 1, 2), ("number", 1, 0), ("number", -1, -2),
               ("number", -100, 0), ("number", 0, 100), ("number", False, 1), ("number", 0, True), ("number", "0", "1"),
               ("number", None, 1), ("number", 0, None), ("number", 0.0, 1), (None,), ("Any",), ("range", 0, 9), (["any"],), 3, {"any": 1}]
        for kind in bad:
            self.assertFalse(is_kind(kind), kind)


class IsOf(unittest.TestCase):
    def check(self, kind, good, bad):
        for word in good:
            self.assertIs(is_of(kind, word), True, (kind, word))
        for word in bad:
            self.assertIs(is_of(kind, word), False, (kind, word))

    def test_any(self):
        self.check(("any",), ["", "-", "--", "-a", "x y", "\n", "\u20ac", "any"], [None, 1, b"a", ["a"]])

    def test_chosen(self):
        self.check(("chosen", "ab", "b"), ["ab", "b"], ["", "a", "abb", "bab", "chosen", "B", " b", "ab,b", "-b", "-"])
        self.check(("chosen", "a"), ["a"], ["chosen", "", "aa", None, 1])

    def test_numbers_at_and_beside_their_bounds(self):
        self.check(("number", 3, 12), ["3", "4", "9", "10", "12"], ["2", "13", "-3", "0", "03", "012", "1", "120", ""])
        self.check(("number", -12, -3), ["-3", "-12", "-10"], ["-2", "-13", "3", "12", "-03", "0"])
        self.check(("number", -99, 99), ["-99", "99", "0", "-1", "1"], ["-100", "100", "990"])
        self.check(("number", 0, 0), ["0"], ["1", "-1", "-0", "00", ""])
        self.check(("number", 7, 7), ["7"], ["6", "8", "07", "007", "-7"])

    def test_figures_without_needless_zeros_and_signs(self):
        bad = ["-0", "007", "07", "00", "-07", "+1", "+0", "", "-", "--1", " 1", "1 ", "1\n", "1.0", "1_0", "0x1", "a",
               "\u0661", "\uff11", "\u00b2", "1-", "1e1", "\u22121"]
        self.check(("number", -99, 99), ["7", "-7", "10", "-10"], bad)
        self.check(("number", -99, 99), [], [1, True, None, b"1"])


if __name__ == "__main__":
    unittest.main()
