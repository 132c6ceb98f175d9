"""What is left of a reading never takes less than the costs tell, so least lists are found by them."""

import unittest
from random import Random

from switchyard.costs import Costs
from switchyard.machines import alphabet, measures
from switchyard.nets import Net, least_row, least_row_within, told_words
from switchyard.readings import Reading, readings
from switchyard.spelling import Tellings, spelled
from tests.brute import tapes_of
from tests.samples import sample_lists, tables


def tellings_of(table, reading):
    tapes = {name: list(marks) for name, marks in tapes_of(reading.key()).items() if marks}
    signs = alphabet([table], "".join(mark for marks in tapes.values() for mark in marks if len(mark) == 1))
    return Tellings(Net(table, signs, False), reading, tapes)


def distances(space):
    """How many signs lead from each state to a goal, for states from which some do."""
    found, before, left = {space.first_state()}, {}, [space.first_state()]
    while left:
        state = left.pop()
        for _, later in space.moves(state):
            before.setdefault(later, []).append(state)
            if later not in found:
                found.add(later)
                left.append(later)
    level = [state for state in found if space.is_goal(state)]
    far = {state: 0 for state in level}
    while level:
        earlier = {state for later in level for state in before.get(later, []) if state not in far}
        far.update({state: far[level[0]] + 1 for state in earlier})
        level = list(earlier)
    return far


class Left(unittest.TestCase):
    def test_never_more_than_really_lacks(self):
        just, total = 0, 0
        for seed, table in tables(0, 160):
            if measures(table)[0] > 120:
                continue
            for words in sample_lists(table, seed, 12):
                for reading in readings(table, words)[:1]:
                    space = tellings_of(table, reading)
                    self.assertIsInstance(space.costs, Costs)
                    far = distances(space)
                    for state, lacks in far.items():
                        told = space.least_left(state)
                        self.assertLessEqual(told, lacks, (seed, words, space.net.places[state[0]]))
                        just += told == lacks
                        total += 1
        self.assertGreater(just, total * 3 // 4)

    def test_least_lists_as_without_costs(self):
        found = 0
        for seed, table in tables(160, 320):
            if measures(table)[0] > 120:
                continue
            for words in sample_lists(table, seed, 12):
                for reading in readings(table, words)[:1]:
                    space = tellings_of(table, reading)
                    row = least_row(space, None)
                    self.assertEqual(spelled(table, reading), told_words(space.net.signs, row), (seed, words))
                    again = tellings_of(table, reading)
                    self.assertEqual(least_row_within(again, len(row)), row, (seed, words))
                    if row:
                        self.assertIsNone(least_row_within(again, len(row) - 1), (seed, words))
                    found += 1
        self.assertGreater(found, 150)

    def test_changed_readings_as_without_costs(self):
        lists, none = 0, 0
        for seed, table in tables(320, 620):
            if measures(table)[0] > 120:
                continue
            rng = Random(seed)
            for words in sample_lists(table, seed, 8):
                for reading in readings(table, words)[:1]:
                    changed = changed_reading(rng, reading)
                    row = least_row(tellings_of(table, changed), None)
                    least = spelled(table, changed)
                    lists += least is not None
                    none += least is None
                    if row is None:
                        self.assertIsNone(least, (seed, words))
                    else:
                        self.assertEqual(least, told_words(tellings_of(table, changed).net.signs, row), (seed, words))
        self.assertGreater(min(lists, none), 30)


def changed_reading(rng, reading):
    """The same reading with a coming, a value or a word more or less, or with another one."""
    words = ["", "-", "--", "x", "a", "-x", "1", "-1", "add"]
    options = {name: [list(values) for values in comings] for name, comings in reading.options.items()}
    operands = {name: list(row) for name, row in reading.operands.items()}
    rows = [*options.values(), *operands.values(), *[values for comings in options.values() for values in comings]]
    if rows:
        row = rng.choice(rows)
        is_comings = any(row is comings for comings in options.values())
        if row and rng.random() < 0.4:
            row.pop(rng.randrange(len(row)))
        if rng.random() < 0.6:
            row.insert(rng.randint(0, len(row)), [] if is_comings else rng.choice(words))
    told = {name: tuple(tuple(values) for values in comings) for name, comings in options.items()}
    return Reading(told, {name: tuple(row) for name, row in operands.items()}, reading.command)


if __name__ == "__main__":
    unittest.main()
