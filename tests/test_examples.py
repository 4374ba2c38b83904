"""The blocks of examples of the document, row by row."""

import unittest

from gatequarters import quarters, ways
from tests.support import plain

QUARTERS = '''
one = Quarter([("main", "in", "out", 2, 1)], ["in", "out"])
two = Quarter([("left", "in", "out", 1, 1), ("right", "in", "out", 1, 1)], ["in", "out"])
[len(told_changes(one, two)), told_changes(one, Quarter([("main", "out", "in", 2, 1)], ["out", "in"])), mirrored(one) == changed(one, ("turn", "main"))]
# [3, [('turn', 'main')], True]
lane = Quarter([("ab", "a", "b", 2, 1), ("ax", "a", "x", 1, 1), ("yb", "y", "b", 3, 0), ("ba", "b", "a", 0, 1)], ["b", "a", "c"])
[lane.gates(), crossings_of(lane), idle_names(lane), trimmed(lane).streets(), live_row(lane, "ab"), live_row(lane, "ax")]
# [['a', 'b', 'c'], ['a', 'b', 'c', 'x', 'y'], ['ax', 'ba', 'yb'], [('ab', 'a', 'b', 2, 1)], [('ab', 'a', 'b', 2, 1)], None]
asked_of(lane, Town([("ab", "x", "a", 5, 0), ("z", "b", "park", 1, 7)]))
# ['a', 'b', 'c', 'park', 'x']
'''

WAYS = '''
one = Quarter([("main", "in", "out", 2, 1)], ["in", "out"])
two = Quarter([("left", "in", "out", 1, 1), ("right", "in", "out", 1, 1)], ["in", "out"])
both = Quarter([("low", "in", "out", 1, 1), ("high", "in", "out", 3, 5), ("off", "in", "out", 0, 0)], ["in", "out"])
town = Town([("go", "home", "in", 5, 1), ("come", "out", "shop", 5, 2)])
[way_length(one, town, "home", "shop"), shortest_way(one, town, "home", "shop"), way_length(one, town, "shop", "home"), way_length(one, town, "in", "shop")]
# [4, [('town', 'go'), ('quarter', 'main'), ('town', 'come')], None, 3]
heights(one, town, "home", "shop")
# {('gate', 'in'): 1, ('gate', 'out'): 2, ('town', 'home'): 0, ('town', 'shop'): 4}
[are_heights(one, town, "home", "shop", {("gate", "in"): 0, ("gate", "out"): 1, ("town", "home"): 0, ("town", "shop"): 3}), heights(one, town, "shop", "home")[("town", "home")]]
# [False, None]
[way_width(one, town, "home", "shop"), way_width(two, town, "home", "shop"), is_narrow_lot(two, town, "home", "shop", [("gate", "in"), ("town", "home")]), is_narrow_lot(two, town, "home", "shop", [("town", "home")])]
# [2, 1, True, False]
[used_streets(two, town, "in", "shop"), needed_streets(two, town, "in", "shop")]
# [[('quarter', 'left'), ('quarter', 'right'), ('town', 'come')], [('town', 'come')]]
[trades(both, town, "home", "shop"), wide_length(both, town, "home", "shop", 2), wide_length(both, town, "home", "shop", 4), is_way(both, town, "in", "out", [("quarter", "off")])]
# [[(1, 4), (3, 8)], 8, None, False]
'''

README = '''
one = Quarter([("main", "in", "out", 2, 1)], ["in", "out"])
town = Town([("go", "home", "in", 5, 1), ("come", "out", "shop", 5, 2)])
wider = changed(one, ("width", "main", 9))
[way_length(one, town, "home", "shop"), shortest_way(one, town, "home", "shop"), told_changes(one, wider), trades(wider, town, "home", "shop")]
# [4, [('town', 'go'), ('quarter', 'main'), ('town', 'come')], [('width', 'main', 9)], [(5, 4)]]
'''


class Examples(unittest.TestCase):
    def run_block(self, block, many):
        names = {**vars(quarters), **vars(ways)}
        rows = block.strip().split("\n")
        told = 0
        for row, behind in zip(rows, rows[1:] + [""]):
            if behind.startswith("# "):
                self.assertEqual(plain(eval(row, names)), plain(eval(behind[2:])), row)
                told += 1
            elif not row.startswith("# "):
                exec(row, names)
        self.assertEqual(told, many)

    def test_quarters_and_towns(self):
        self.run_block(QUARTERS, 3)

    def test_ways(self):
        self.run_block(WAYS, 6)

    def test_readme(self):
        self.run_block(README, 1)


if __name__ == "__main__":
    unittest.main()
