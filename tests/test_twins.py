"""Lags of two ways beside what both ways have told in all."""

import unittest
from random import Random

from switchyard.twins import APART, EVEN, Lags, turned_rows


def rows_of(one, other):
    """The lag of two ways that have told these marks; None if they never tell the same again."""
    rows = []
    for tape in sorted({tape for tape, _ in one + other}):
        ones = [mark for name, mark in one if name == tape]
        others = [mark for name, mark in other if name == tape]
        many = min(len(ones), len(others))
        if ones[:many] != others[:many]:
            return None
        if len(ones) != len(others):
            rows.append((tape, tuple(ones[many:]), tuple(others[many:])))
    return tuple(rows)


class LagsOfMarks(unittest.TestCase):
    def test_steps(self):
        lags = Lags()
        self.assertEqual(lags.later(EVEN, ("f", "a"), ("f", "a")), EVEN)
        self.assertEqual(lags.later(EVEN, (), ()), EVEN)
        self.assertEqual(lags.later(EVEN, ("f", "a"), ("f", "b")), APART)
        self.assertEqual(lags.later(APART, (), ()), APART)
        one = lags.later(EVEN, ("f", "a"), ())
        self.assertEqual(lags.rows[one], (("f", ("a",), ()),))
        self.assertEqual(lags.later(one, (), ("f", "a")), EVEN)
        self.assertEqual(lags.later(one, ("f", "a"), ("f", "a")), one)
        self.assertEqual(lags.later(one, ("f", "b"), ("f", "b")), APART)
        self.assertEqual(lags.later(one, (), ()), one)
        self.assertEqual(lags.rows[lags.later(one, (), ("g", "a"))], (("f", ("a",), ()), ("g", (), ("a",))))
        self.assertEqual(lags.rows[lags.turned(one)], (("f", (), ("a",)),))
        self.assertEqual(lags.turned(lags.turned(one)), one)
        self.assertEqual((lags.turned(EVEN), lags.turned(APART)), (EVEN, APART))

    def test_many_rows(self):
        rng = Random(5)
        lags, seen = Lags(), set()
        marks = [(), (), ("f", "a"), ("f", "a"), ("f", "b"), ("g", "a")]
        for _ in range(3000):
            lag, one, other = EVEN, [], []
            for _ in range(7):
                mark, beside = rng.choice(marks), rng.choice(marks)
                if rng.random() < 0.3:
                    beside = mark
                lag = lags.later(lag, mark, beside)
                one += [mark] if mark else []
                other += [beside] if beside else []
                expected = rows_of(one, other)
                self.assertEqual(lags.rows[lag], expected)
                self.assertEqual(lag == EVEN, expected == ())
                self.assertEqual(lag == APART, expected is None)
                if expected:
                    self.assertEqual(lags.rows[lags.turned(lag)], rows_of(other, one))
                    self.assertEqual(turned_rows(expected), rows_of(other, one))
                seen.add(lag)
        self.assertGreater(len(seen), 100)


if __name__ == "__main__":
    unittest.main()
