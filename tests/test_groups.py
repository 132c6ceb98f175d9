"""Moves by groups of signs, beside moves by each sign; and what is built upon them."""

import unittest

from switchyard.groups import OTHER, grouped, moves_by, signs_apart
from switchyard.machines import alphabet, foreign_signs, measures
from switchyard.nets import Net
from switchyard.reader import read
from switchyard.tables import Option, Table
from switchyard.tracks import LiveWalks, Tracks
from switchyard.walks import Walks
from tests.brute import row_of
from tests.samples import sample_lists, small_tables, tables

ANY = ("any",)


class Grouped(unittest.TestCase):
    def test_moves(self):
        signs = ("", "-", "a", "b", "c")
        moves = {0: [(1, ())], 1: [(2, ("f", "-"))], 2: [(3, ("f", "a")), (4, ())], 3: [(2, ("f", "b"))]}
        groups = grouped(moves, signs)
        self.assertEqual(set(groups), {0, 2, 4, OTHER})
        for number, sign in enumerate(signs):
            self.assertEqual(list(moves_by(groups, number, sign)), moves.get(number, []))
        self.assertEqual(set(signs_apart([groups, {0: (), 3: (), OTHER: ()}])), {0, 2, 3, 4, OTHER})

    def test_samples(self):
        for seed, table in [*tables(0, 30), *small_tables(0, 30)]:
            if measures(table)[0] <= 120:
                net = Net(table, alphabet([table], ""), False)
                for number in range(len(net.all_places())):
                    for moves, groups in [(net.moves(number), net.grouped_moves(number)),
                                          (net.live_moves(number), net.grouped_live_moves(number))]:
                        for at, sign in enumerate(net.signs):
                            self.assertEqual(list(moves_by(groups, at, sign)), moves.get(at, []), (seed, number, sign))


class ReaderByRows(unittest.TestCase):
    def test_walks_and_tracks_read_what_the_reader_reads(self):
        found = 0
        for seed, table in [*tables(0, 60), *small_tables(0, 60)]:
            if measures(table)[0] > 120:
                continue
            lists = sample_lists(table, seed, 15)
            further = "".join(word for words in lists for word in words)
            net = Net(table, alphabet([table], further), False)
            walks, tracks = Walks(net), Tracks(net)
            live = LiveWalks(tracks)
            for words in lists:
                row = [net.signs.index(sign) for sign in row_of(words)]
                walk, kept, ways = walks.first, live.first, [0]
                for sign in row:
                    walk = walks.moves(walk).get(sign, walks.refused)
                    kept = live.moves(kept).get(sign, 0)
                    ways = [behind for way in ways for behind, _ in moves_by(tracks.grouped_live_moves(way), sign, net.signs[sign])]
                holds = bool(read(table, words))
                self.assertIs(walks.is_end(walk), holds, (seed, words))
                self.assertIs(live.ends[kept], holds, (seed, words))
                self.assertEqual([tracks.ends[way] for way in ways].count(True), int(holds), (seed, words))
                found += holds
        self.assertGreater(found, 100)


class Foreign(unittest.TestCase):
    def test_foreign_signs(self):
        table = Table([Option("a", "a", ("one", ANY))], [], None)
        self.assertEqual(foreign_signs([table], ""), ("A", "B"))
        self.assertEqual(foreign_signs([table], "Aq"), ("B", "C"))
        self.assertEqual(foreign_signs([table], "ABCDEFGHIJKLMNOPQRSTUVWX"), ("Y", "Z"))
        self.assertEqual(foreign_signs([table], "ABCDEFGHIJKLMNOPQRSTUVWXY"), ())
        self.assertEqual(alphabet([table], "ABCDEFGHIJKLMNOPQRSTUVWXY")[-2:], ("Y", "a"))


if __name__ == "__main__":
    unittest.main()
