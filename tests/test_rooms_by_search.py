"""[47] to [52]: rooms and bars against all widths and lengths of small quarters."""

import itertools
import random
import unittest

from gatequarters import rooms
from gatequarters.quarters import Quarter
from gatequarters.tables import table_of
from tests.support import MEASURES, named_streets, small_quarter, table_by_search, with_widths

GATES = [["a", "b"], ["a", "b", "c"], ["a", "z"], ["a", "b", "c", "d"]]


def quarters(seed, many, most=5):
    """Yield random small quarters with their streets."""
    chance = random.Random(seed)
    for _ in range(many):
        quarter = small_quarter(chance, chance.choice(GATES), most)
        for street in quarter.streets():
            yield quarter, street


def with_length(quarter, name, length):
    """Return the quarter in which a street has another length."""
    streets = [(word, start, end, width, length if word == name else own)
               for word, start, end, width, own in quarter.streets()]
    return Quarter(streets, quarter.gates())


def told(room, bound):
    """Return the numbers of a room up to a bound, and whether it ends."""
    if room is None:
        return []
    return list(range(room[0], bound if room[1] is None else room[1] + 1))


def unlike(quarter, other, measure):
    """Return the keys at which two quarters' tables are unlike."""
    one, two = table_of(quarter, measure), table_of(other, measure)
    return [key for key in one if one[key] != two[key]]


class Rooms(unittest.TestCase):
    def test_entries_with_another_width(self):
        for quarter, street in quarters(1, 15):
            for measure in MEASURES:
                for width in (0, 1, 2, 5):
                    other = with_widths(quarter, {street[0]: width})
                    entries = rooms.entries_with(quarter, street[0], width, measure)
                    self.assertEqual(entries, table_by_search(other, measure))
                    self.assertEqual(list(entries), sorted(entries))
                    noticed = rooms.noticed_at(quarter, street[0], width, measure)
                    self.assertEqual(noticed, unlike(quarter, other, measure))

    def test_rooms_of_widths(self):
        ends = set()
        for quarter, street in quarters(2, 50):
            bound = sum(row[3] for row in quarter.streets()) + 4
            for measure in MEASURES:
                room = rooms.width_room(quarter, street[0], measure)
                unnoticed = [width for width in range(bound)
                             if not unlike(quarter, with_widths(quarter, {street[0]: width}), measure)]
                self.assertEqual(told(room, bound), unnoticed)
                self.assertEqual(room[1] is None, unnoticed[-1] == bound - 1)
                ends.add((measure, room[0] == 0, room[1] is None, room[0] == room[1]))
                if measure in ("most", "shut1", "shut2"):
                    self.assertIn(room[1], (None, room[0]))
        self.assertGreater(len(ends), 12)

    def test_bars_of_widths(self):
        for quarter, street in quarters(3, 40):
            name = street[0]
            for measure in MEASURES:
                least, greatest = rooms.width_room(quarter, name, measure)
                below = unlike(quarter, with_widths(quarter, {name: least - 1}), measure) if least else [None]
                above = [None] if greatest is None else unlike(
                    quarter, with_widths(quarter, {name: greatest + 1}), measure)
                bars = rooms.width_bars(quarter, name, measure)
                self.assertTrue(bars[0] in below and bars[1] in above)
                for key in [None] + list(table_of(quarter, measure)):
                    judged = rooms.are_width_bars(quarter, name, measure, (key, bars[1]))
                    self.assertIs(judged, key in below)
                    judged = rooms.are_width_bars(quarter, name, measure, (bars[0], key))
                    self.assertIs(judged, key in above)

    def test_rooms_and_bars_of_lengths(self):
        ends = set()
        for quarter, street in quarters(4, 80):
            name = street[0]
            bound = sum(row[4] for row in quarter.streets()) + 4
            room = rooms.length_room(quarter, name)
            unnoticed = [length for length in range(bound) if not unlike(quarter, with_length(quarter, name, length), "way")]
            self.assertEqual(told(room, bound), unnoticed)
            self.assertEqual(room[1] is None, unnoticed[-1] == bound - 1)
            self.assertIn(room[1], (None, street[4]))
            ends.add((room[0] == 0, room[1] is None, street[3] == 0))
            below = unlike(quarter, with_length(quarter, name, room[0] - 1), "way") if room[0] else [None]
            above = [None] if room[1] is None else unlike(quarter, with_length(quarter, name, room[1] + 1), "way")
            bars = rooms.length_bars(quarter, name)
            self.assertTrue(bars[0] in below and bars[1] in above)
            for key in [None] + list(table_of(quarter, "way")):
                self.assertIs(rooms.are_length_bars(quarter, name, (key, bars[1])), key in below)
                self.assertIs(rooms.are_length_bars(quarter, name, (bars[0], key)), key in above)
        self.assertGreater(len(ends), 4)

    def test_lengths_are_noticed_by_no_other_measure(self):
        for quarter, street in quarters(5, 20):
            for measure in MEASURES[:3] + MEASURES[4:]:
                self.assertEqual(unlike(quarter, with_length(quarter, street[0], street[4] + 3), measure), [])


class Trades(unittest.TestCase):
    def both(self, quarter, name, width, other, measure, bound):
        """Return for each width of the other street the keys at which both together are noticed."""
        changed = with_widths(quarter, {name: width})
        return [unlike(quarter, with_widths(changed, {other: number}), measure) for number in range(bound)]

    def test_rooms_of_trades(self):
        chance = random.Random(11)
        seen = set()
        for quarter, street in quarters(12, 40):
            others = [row[0] for row in quarter.streets() if row != street]
            if not others:
                continue
            other, width = chance.choice(others), chance.randint(0, 4)
            bound = sum(row[3] for row in quarter.streets()) + width + 4
            for measure in MEASURES:
                noticed = self.both(quarter, street[0], width, other, measure, bound)
                unnoticed = [number for number in range(bound) if not noticed[number]]
                room = rooms.trade_room(quarter, street[0], width, other, measure)
                self.assertEqual(told(room, bound), unnoticed)
                if room is not None:
                    self.assertEqual(room[1] is None, unnoticed[-1] == bound - 1)
                seen.add((measure, room is None, room is not None and room[1] is None))
        self.assertGreater(len(seen), 11)

    def test_bars_of_trades(self):
        chance = random.Random(13)
        sizes = []
        for quarter, street in quarters(14, 50):
            others = [row[0] for row in quarter.streets() if row != street]
            if not others:
                continue
            other, width = chance.choice(others), chance.randint(0, 4)
            bound = sum(row[3] for row in quarter.streets()) + width + 4
            for measure in MEASURES:
                noticed = self.both(quarter, street[0], width, other, measure, bound)
                asked = (quarter, street[0], width, other, measure)
                bars = rooms.trade_bars(*asked)
                if rooms.trade_room(*asked) is not None:
                    self.assertIsNone(bars)
                    self.assertIs(rooms.are_trade_bars(*asked, [list(table_of(quarter, measure))[0]]), False)
                    continue
                sizes.append(len(bars))
                self.assertIs(rooms.are_trade_bars(*asked, bars), True)
                keys = list(table_of(quarter, measure))
                for size in (1, 2):
                    for value in itertools.combinations(keys, size):
                        right = all(any(key in row for key in value) for row in noticed)
                        self.assertIs(rooms.are_trade_bars(*asked, list(value)), right)
                        self.assertTrue(right or list(value) != bars)
        self.assertGreater(sizes.count(1), 5)
        self.assertGreater(sizes.count(2), 5)


class Great(unittest.TestCase):
    def test_quarters_as_great_as_the_document_lets(self):
        chance = random.Random(51)
        for measure, streets in (("most", 14), ("shut1", 14), ("shut2", 8), ("way", 14), ("widest", 14)):
            for _ in range(4):
                quarter = Quarter(named_streets(chance, list("abcdefgh"), streets, 20000), list("abcde"))
                for name in ("a", "b", "c"):
                    self.check_room(quarter, name, measure)
                    self.check_trade(quarter, name, chance.choice([0, 5, 20000]), "d", measure)

    def check_room(self, quarter, name, measure):
        least, greatest = rooms.width_room(quarter, name, measure)
        for width in (least, 10 ** 7 if greatest is None else greatest):
            self.assertEqual(rooms.noticed_at(quarter, name, width, measure), [])
        if least:
            self.assertNotEqual(rooms.noticed_at(quarter, name, least - 1, measure), [])
        if greatest is not None:
            self.assertNotEqual(rooms.noticed_at(quarter, name, greatest + 1, measure), [])
        bars = rooms.width_bars(quarter, name, measure)
        self.assertIs(rooms.are_width_bars(quarter, name, measure, bars), True)
        bars = rooms.length_bars(quarter, name)
        self.assertIs(rooms.are_length_bars(quarter, name, bars), True)

    def check_trade(self, quarter, name, width, other, measure):
        asked = (quarter, name, width, other, measure)
        room = rooms.trade_room(*asked)
        if room is None:
            self.assertIs(rooms.are_trade_bars(*asked, rooms.trade_bars(*asked)), True)
            return
        changed = with_widths(quarter, {name: width, other: room[0]})
        self.assertEqual(unlike(quarter, changed, measure), [])
        changed = with_widths(quarter, {name: width, other: 10 ** 7 if room[1] is None else room[1]})
        self.assertEqual(unlike(quarter, changed, measure), [])


if __name__ == "__main__":
    unittest.main()
