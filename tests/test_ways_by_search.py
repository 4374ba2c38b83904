"""[17] to [22] against plain searches through random small nets."""

import itertools
import random
import unittest

from gatequarters.quarters import Quarter, Town, asked_of
from gatequarters.ways import are_heights, heights, is_narrow_lot, is_shortest_way, is_way, is_widest_way, narrow_lot
from gatequarters.ways import needed_streets, net_places, net_streets, shortest_way, trades, used_streets, way_length
from gatequarters.ways import way_width, wide_length, widest_way
from tests.support import all_places, lists_of, net_arcs, place_of, plain, small_net, small_streets, sublists_of
from tests.support import ways_by_search

LONGEST = 7


class BySearch(unittest.TestCase):
    def each_question(self, seed, many):
        """Yield random nets with two places, and all ways of few streets between these."""
        chance = random.Random(seed)
        for _ in range(many):
            quarter, town = small_net(chance)
            places = asked_of(quarter, town)
            if len(places) < 2:
                continue
            start, goal = chance.sample(places, 2)
            yield (quarter, town, start, goal), ways_by_search(quarter, town, start, goal, LONGEST)

    def test_nets(self):
        for net, _ in self.each_question(17, 60):
            self.assertEqual(net_places(*net[:2]), all_places(*net[:2]))
            self.assertEqual(net_streets(*net[:2]), sorted(net_arcs(*net[:2])))

    def test_ways(self):
        for net, ways in self.each_question(18, 300):
            if not ways:
                self.assertEqual([way_length(*net), shortest_way(*net)], [None, None])
                continue
            length, many = min(way[:2] for way in ways)
            self.assertEqual(way_length(*net), length)
            self.assertIn(shortest_way(*net), [way[3] for way in ways if way[:2] == (length, many)])

    def test_judges_of_ways(self):
        for net, ways in self.each_question(19, 40):
            rows = [way[3] for way in ways]
            least = min([way[:2] for way in ways], default=None)
            widest = max([way[2] for way in ways], default=0)
            for value in lists_of(net_streets(*net[:2]), 4):
                self.assertIs(is_way(*net, value), value in rows)
                told = ways[rows.index(value)] if value in rows else (None, None, None)
                self.assertIs(is_shortest_way(*net, value), value in rows and told[:2] == least)
                self.assertIs(is_widest_way(*net, value), value in rows and told[2] == widest)

    def test_widths_and_trades(self):
        for net, ways in self.each_question(20, 300):
            widest = max([way[2] for way in ways], default=0)
            self.assertEqual(way_width(*net), widest)
            self.assertIn(widest_way(*net), [way[3] for way in ways if way[2] == widest] or [None])
            for width in range(5):
                lengths = [way[0] for way in ways if way[2] >= width]
                self.assertEqual(wide_length(*net, width), min(lengths, default=None))
            pairs = {(way[2], way[0]) for way in ways}
            best = [pair for pair in pairs if not any(
                other != pair and other[0] >= pair[0] and other[1] <= pair[1] for other in pairs)]
            self.assertEqual(trades(*net), sorted(best))

    def test_narrow_lots(self):
        for net, ways in self.each_question(21, 60):
            widest = max([way[2] for way in ways], default=0)
            start, goal = [place_of(net[0], word) for word in net[2:]]
            arcs = net_arcs(*net[:2]).values()
            self.assertIs(is_narrow_lot(*net, narrow_lot(*net)), True)
            for lot in sublists_of(net_places(*net[:2])):
                leaving = [width for begin, end, width, _ in arcs if begin in lot and end not in lot]
                right = start in lot and goal not in lot and all(width <= widest for width in leaving)
                self.assertIs(is_narrow_lot(*net, lot), right)

    def test_used_and_needed_streets(self):
        for net, ways in self.each_question(22, 300):
            least = min([way[0] for way in ways], default=None)
            rows = [way[3] for way in ways if way[0] == least]
            names = net_streets(*net[:2])
            self.assertEqual(used_streets(*net), [name for name in names if any(name in row for row in rows)])
            needed = [name for name in names if rows and all(name in row for row in rows)]
            self.assertEqual(needed_streets(*net), needed)

    def test_heights(self):
        for net, ways in self.each_question(23, 300):
            self.assertEqual(list(heights(*net)), net_places(*net[:2]))
            self.assertIs(are_heights(*net, heights(*net)), True)
            goal = place_of(net[0], net[3])
            self.assertEqual(heights(*net)[goal], min([way[0] for way in ways], default=None))

    def test_judges_of_heights(self):
        for net, ways in self.each_question(24, 60):
            places = net_places(*net[:2])
            if len(places) > 4:
                continue
            start, goal = [place_of(net[0], word) for word in net[2:]]
            least = min([way[0] for way in ways], default=None)
            for row in itertools.product([None, 0, 1, 2, 3, 4], repeat=len(places)):
                value = dict(zip(places, row))
                right = value[start] == 0 and value[goal] == least
                for begin, end, width, length in net_arcs(*net[:2]).values():
                    if width > 0 and value[begin] is not None:
                        right = right and value[end] is not None and value[end] <= value[begin] + length
                self.assertIs(are_heights(*net, value), right)


class Limits(unittest.TestCase):
    def net(self, chance):
        words = ["aaaaaaaa", "b", "c", "d", "e", "x", "y", "z"]
        inside = []
        for k in range(24):
            start, end = chance.sample(words, 2)
            width, length = chance.randint(0, 20000), chance.randint(0, 20000)
            inside.append(("abcdefghijklmnopqrstuvwx"[k], start, end, width, length))
        outside = small_streets(chance, ["aaaaaaaa", "b", "s", "t", "x", "y"], 8, range(1001), range(1001))
        outside += [("ya", "s", "aaaaaaaa", 1000, 0), ("yb", "b", "t", 1000, 1000)]
        return Quarter(inside, words[:5]), Town(outside)

    def test_great_nets_hold_together(self):
        chance = random.Random(3)
        for _ in range(20):
            net = (*self.net(chance), "s", "t")
            way, wide = shortest_way(*net), widest_way(*net)
            self.assertIs(is_shortest_way(*net, way), True)
            self.assertIs(is_widest_way(*net, wide), True)
            self.assertIs(are_heights(*net, heights(*net)), True)
            self.assertIs(is_narrow_lot(*net, narrow_lot(*net)), True)
            self.assertEqual(trades(*net)[0][1], way_length(*net))
            self.assertEqual(trades(*net)[-1][0], way_width(*net))
            self.assertLessEqual(set(needed_streets(*net)), set(way))
            self.assertLessEqual(set(way), set(used_streets(*net)))
            self.assertEqual(wide_length(*net, way_width(*net)), trades(*net)[-1][1])
            self.assertIsNone(wide_length(*net, 20001))

    def test_what_is_returned_has_plain_kinds(self):
        net = (*self.net(random.Random(4)), "s", "t")
        for function in [shortest_way, widest_way, narrow_lot, used_streets, needed_streets]:
            result = function(*net)
            self.assertEqual(plain(result), plain([(side, word) for side, word in result]))
        self.assertEqual(plain(trades(*net)), plain([(int(width), int(length)) for width, length in trades(*net)]))


if __name__ == "__main__":
    unittest.main()
