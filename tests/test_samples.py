"""Readings of many tables and lists beside those that are found sign by sign, by [21] to [23]."""

import unittest

from switchyard.readings import readings
from tests.oracle import Oracle
from tests.samples import sample_lists, tables


class Samples(unittest.TestCase):
    def test_readings_are_those_that_the_machine_tells(self):
        several = 0
        for seed, table in tables(0, 800):
            oracle = Oracle(table)
            for words in sample_lists(table, seed, 40):
                keys = [reading.key() for reading in readings(table, words)]
                self.assertEqual(keys, oracle.keys(words), (seed, words))
                several += len(keys) > 1
        self.assertGreater(several, 500)


if __name__ == "__main__":
    unittest.main()
