"""Aliases: point [19]."""

import unittest

from switchyard.aliases import expanded, ringed, used_aliases
from switchyard.errors import BadAlias, BadWords


class Expanding(unittest.TestCase):
    def check(self, aliases, words, left, used):
        kept = {name: list(row) for name, row in aliases.items()}
        told = expanded(aliases, words)
        self.assertIsInstance(told, list)
        self.assertEqual(told, left)
        told.append("x")
        self.assertEqual(expanded(aliases, words), left)
        self.assertEqual(used_aliases(aliases, words), used)
        self.assertIsInstance(used_aliases(aliases, words), tuple)
        self.assertEqual({name: list(row) for name, row in aliases.items()}, kept)

    def test_a_first_word(self):
        aliases = {"co": ["commit", "-a"], "up": ("go", "--up")}
        self.check(aliases, ["co", "x"], ["commit", "-a", "x"], ("co",))
        self.check(aliases, ("up",), ["go", "--up"], ("up",))
        self.check(aliases, ["x", "co"], ["x", "co"], ())
        self.check(aliases, ["", "co"], ["", "co"], ())
        self.check(aliases, ["Co"], ["Co"], ())
        self.check(aliases, ["co", "co"], ["commit", "-a", "co"], ("co",))

    def test_no_words_and_no_aliases(self):
        self.check({"a": ["b"]}, [], [], ())
        self.check({}, ["a", "b"], ["a", "b"], ())
        self.check({}, [], [], ())

    def test_aliases_that_lead_on(self):
        aliases = {"a": ["b", "1"], "b": ["c", "2"], "c": ["d", "3"]}
        self.check(aliases, ["a", "x"], ["d", "3", "2", "1", "x"], ("a", "b", "c"))
        self.check(aliases, ["b"], ["d", "3", "2"], ("b", "c"))

    def test_aliases_to_themselves_and_to_one_another(self):
        self.check({"ls": ["ls", "-l"]}, ["ls", "x"], ["ls", "-l", "x"], ("ls",))
        aliases = {"a": ["b", "1"], "b": ["a", "2"]}
        self.check(aliases, ["a"], ["a", "2", "1"], ("a", "b"))
        self.check(aliases, ["b"], ["b", "1", "2"], ("b", "a"))

    def test_aliases_without_words(self):
        aliases = {"a": [], "b": ["c"], "d": ()}
        self.check(aliases, ["a"], [], ("a",))
        self.check(aliases, ["a", "b", "x"], ["c", "x"], ("a", "b"))
        self.check(aliases, ["a", "d", "a", "b"], ["a", "b"], ("a", "d"))
        self.check({"e": ["a", "f"], "a": [], "f": ["g"]}, ["e"], ["g"], ("e", "a", "f"))

    def test_many_aliases(self):
        aliases = {f"a{number}": [f"a{number + 1}", str(number)] for number in range(3000)}
        self.assertEqual(expanded(aliases, ["a0"]), ["a3000", *[str(number) for number in range(2999, -1, -1)]])
        self.assertEqual(len(used_aliases(aliases, ["a0"])), 3000)


class Rings(unittest.TestCase):
    def test_rings(self):
        self.assertEqual(ringed({}), ())
        self.assertEqual(ringed({"a": ["b"]}), ())
        self.assertEqual(ringed({"a": ["b"], "b": ["c"]}), ())
        self.assertEqual(ringed({"a": ["a", "-l"]}), ("a",))
        self.assertEqual(ringed({"b": ["a"], "a": ["b"], "c": ["d"]}), ("a", "b"))
        self.assertEqual(ringed({"b": ("a",), "a": ("a",), "z": ["b", "x"], "y": ["x"]}), ("a", "b", "z"))

    def test_aliases_without_words(self):
        self.assertEqual(ringed({"a": []}), ())
        self.assertEqual(ringed({"a": [], "b": ["a", "b"], "c": ["a", "a"], "d": ["a", "x"]}), ("b", "c"))

    def test_only_first_words_count(self):
        self.assertEqual(ringed({"a": ["x", "a"], "b": ["x", "a"]}), ())


class Refusing(unittest.TestCase):
    def refused(self, aliases, words=("x",)):
        told = []
        for made in [lambda: expanded(aliases, words), lambda: used_aliases(aliases, words), lambda: ringed(aliases)]:
            with self.assertRaises(BadAlias) as caught:
                made()
            told.append(caught.exception.name)
        self.assertEqual(told, [told[0]] * 3)
        return told[0]

    def test_names_that_are_none(self):
        for name in ["", "A", "1a", "abcdefghi", "a-b", "a b", 7, None, ("a",)]:
            self.assertEqual(self.refused({"a": ["b"], name: ["b"]}), name)
        self.assertEqual(expanded({"abcdefgh": ["b"], "a1": []}, ["a1"]), [])

    def test_words_that_are_no_row_of_words(self):
        for words in ["b", None, 7, {"b": 1}, ["b", 1], [None], ("b", ["c"]), b"b"]:
            self.assertEqual(self.refused({"a": ["b"], "b": words, "c": []}), "b", words)

    def test_the_first_one_as_the_dict_goes(self):
        self.assertEqual(self.refused({"c": "x", "A": [], "b": 7}), "c")
        self.assertEqual(self.refused({"c": ["x"], "B": 7, "a": 7}), "B")

    def test_what_is_no_dict(self):
        for aliases in [None, [], (), "a", [("a", ["b"])], 7]:
            self.assertIsNone(self.refused(aliases))

    def test_wrong_words(self):
        for made in [expanded, used_aliases]:
            for words, number in [("a", None), (None, None), ({"a": 1}, None), ([7], 0), (["a", "b", None], 2)]:
                with self.assertRaises(BadWords) as caught:
                    made({"a": ["b"]}, words)
                self.assertEqual(caught.exception.number, number, words)

    def test_several_wrong_at_once(self):
        self.assertEqual(self.refused({"a": 7}, words=7), "a")
        self.assertIsNone(self.refused(None, words=[7]))


if __name__ == "__main__":
    unittest.main()
