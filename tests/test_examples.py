"""The blocks of examples of the document and of the README, row by row."""

import pathlib
import unittest

from tests.support import plain

QUARTERS = '''
from gatequarters.quarters import Quarter, Town, asked_of, changed, crossings_of, idle_names, live_row, mirrored, told_changes, trimmed
one = Quarter([("main", "in", "out", 2, 1)], ["in", "out"])
two = Quarter([("left", "in", "out", 1, 1), ("right", "in", "out", 1, 1)], ["in", "out"])
[len(told_changes(one, two)), told_changes(one, Quarter([("main", "out", "in", 2, 1)], ["out", "in"])), mirrored(one) == changed(one, ("turn", "main"))]
# [3, [('turn', 'main')], True]
lane = Quarter([("ab", "a", "b", 2, 1), ("ax", "a", "x", 1, 1), ("yb", "y", "b", 3, 0), ("ba", "b", "a", 0, 1)], ["b", "a", "c"])
[lane.gates(), crossings_of(lane), idle_names(lane), trimmed(lane).streets(), live_row(lane, "ab"), live_row(lane, "ax")]
# [['a', 'b', 'c'], ['a', 'b', 'c', 'x', 'y'], ['ax', 'ba', 'yb'], [('ab', 'a', 'b', 2, 1)], [('ab', 'a', 'b', 2, 1)], None]
asked_of(lane, Town([("ab", "x", "a", 5, 0), ("z", "b", "park", 1, 7)]))
# ['a', 'b', 'c', 'park', 'x']
'''

WAYS = '''
from gatequarters.quarters import Quarter, Town
from gatequarters.ways import are_heights, heights, is_narrow_lot, is_way, needed_streets, net_places, shortest_way, trades, used_streets, way_length, way_width, wide_length
one = Quarter([("main", "in", "out", 2, 1)], ["in", "out"])
two = Quarter([("left", "in", "out", 1, 1), ("right", "in", "out", 1, 1)], ["in", "out"])
both = Quarter([("low", "in", "out", 1, 1), ("high", "in", "out", 3, 5), ("off", "in", "out", 0, 0)], ["in", "out"])
town = Town([("go", "home", "in", 5, 1), ("come", "out", "shop", 5, 2)])
[way_length(one, town, "home", "shop"), shortest_way(one, town, "home", "shop"), way_length(one, town, "shop", "home"), way_length(one, town, "in", "shop")]
# [4, [('town', 'go'), ('quarter', 'main'), ('town', 'come')], None, 3]
heights(one, town, "home", "shop")
# {('gate', 'in'): 1, ('gate', 'out'): 2, ('town', 'home'): 0, ('town', 'shop'): 4}
[are_heights(one, town, "home", "shop", {("gate", "in"): 0, ("gate", "out"): 1, ("town", "home"): 0, ("town", "shop"): 3}), heights(one, town, "shop", "home")[("town", "home")]]
# [False, None]
[way_width(one, town, "home", "shop"), way_width(two, town, "home", "shop"), is_narrow_lot(two, town, "home", "shop", [("gate", "in"), ("town", "home")]), is_narrow_lot(two, town, "home", "shop", [("town", "home")])]
# [2, 1, True, False]
[used_streets(two, town, "in", "shop"), needed_streets(two, town, "in", "shop")]
# [[('quarter', 'left'), ('quarter', 'right'), ('town', 'come')], [('town', 'come')]]
[trades(both, town, "home", "shop"), wide_length(both, town, "home", "shop", 2), wide_length(both, town, "home", "shop", 4), is_way(both, town, "in", "out", [("quarter", "off")])]
# [[(1, 4), (3, 8)], 8, None, False]
'''

FLOWS = '''
from gatequarters.flows import cut_width, far_cut, flow_of, greatest_on, helping_streets, is_flow, is_paper, is_parting, least_cut, least_on
from gatequarters.flows import most, most_shut, narrow_streets, near_cut, paper_of, streets_of_cut, worst_shut
from gatequarters.quarters import Quarter, Town
ring = Quarter([("ab", "a", "b", 1, 1), ("bc", "b", "c", 1, 1), ("ca", "c", "a", 1, 1)], ["a", "b", "c"])
star = Quarter([("ax", "a", "x", 1, 1), ("bx", "b", "x", 1, 1), ("cx", "c", "x", 1, 1), ("xa", "x", "a", 9, 1), ("xb", "x", "b", 9, 1), ("xc", "x", "c", 9, 1)], ["a", "b", "c"])
town = Town([("go", "s", "a", 5, 1), ("cross", "s", "c", 5, 1), ("home", "b", "t", 5, 1)])
[most(ring, town, "s", "t"), most(star, town, "s", "t"), least_cut(ring, town, "s", "t"), narrow_streets(ring, town, "s", "t")]
# [1, 2, [('gate', 'a'), ('gate', 'c'), ('town', 's')], [('quarter', 'ab')]]
[narrow_streets(star, town, "s", "t"), helping_streets(star, town, "s", "t"), worst_shut(star, town, "s", "t", 1), most_shut(star, town, "s", "t", ["ax", "cx"])]
# [[('quarter', 'ax'), ('quarter', 'cx')], [('quarter', 'ax'), ('quarter', 'cx')], ['xb'], 0]
row = Quarter([("p", "in", "mid", 1, 1), ("q", "mid", "out", 1, 1)], ["in", "out"])
[near_cut(row, Town([]), "in", "out"), far_cut(row, Town([]), "in", "out"), narrow_streets(row, Town([]), "in", "out"), helping_streets(row, Town([]), "in", "out")]
# [[('gate', 'in')], [('gate', 'in'), ('quarter', 'mid')], [('quarter', 'p'), ('quarter', 'q')], []]
pair = Quarter([("left", "in", "out", 1, 1), ("right", "in", "out", 2, 1)], ["in", "out"])
road = Town([("road", "s", "in", 2, 1)])
[most(pair, road, "s", "out"), least_on(pair, road, "s", "out", ("quarter", "right")), greatest_on(pair, road, "s", "out", ("quarter", "right"))]
# [2, 1, 2]
flow = flow_of(pair, road, "s", "out", 2)
[is_paper(pair, road, "s", "out", (flow, [("town", "s")])), streets_of_cut(pair, road, "s", "out", [("town", "s")]), cut_width(pair, road, "s", "out", [("gate", "in"), ("town", "s")])]
# [True, [('town', 'road')], 3]
both = {("quarter", "left"): 1, ("quarter", "right"): 1, ("town", "road"): 2}
[is_flow(pair, road, "s", "out", both), is_parting(pair, road, "s", "out", both, [(1, [("town", "road"), ("quarter", "left")]), (1, [("town", "road"), ("quarter", "right")])])]
# [True, True]
'''

TABLES = '''
from gatequarters.quarters import Quarter, Town
from gatequarters.tables import answer_by, is_entry_paper, least_side, greatest_side, lots_of, side_width, table_of
one, two = Quarter([("main", "in", "out", 2, 1)], ["in", "out"]), Quarter([("left", "in", "out", 1, 1), ("right", "in", "out", 1, 1)], ["in", "out"])
[table_of(one, "most"), table_of(two, "most") == table_of(one, "most"), table_of(one, "way"), table_of(one, "widest"), table_of(two, "widest")]
# [{('in',): 2, ('out',): 0}, True, {('in', 'out'): 1, ('out', 'in'): None}, {('in', 'out'): 2, ('out', 'in'): 0}, {('in', 'out'): 1, ('out', 'in'): 0}]
[table_of(one, "shut1"), table_of(two, "shut1"), table_of(two, "shut2")]
# [{('in',): 0, ('out',): 0}, {('in',): 1, ('out',): 0}, {('in',): 0, ('out',): 0}]
ring = Quarter([("ab", "a", "b", 1, 1), ("bc", "b", "c", 1, 1), ("ca", "c", "a", 1, 1)], ["a", "b", "c"])
star = Quarter([("ax", "a", "x", 1, 1), ("bx", "b", "x", 1, 1), ("cx", "c", "x", 1, 1), ("xa", "x", "a", 9, 1), ("xb", "x", "b", 9, 1), ("xc", "x", "c", 9, 1)], ["a", "b", "c"])
[lots_of(ring), list(table_of(ring, "most").values()), list(table_of(star, "most").values())]
# [[('a',), ('a', 'b'), ('a', 'c'), ('b',), ('b', 'c'), ('c',)], [1, 1, 1, 1, 1, 1], [1, 2, 2, 1, 2, 1]]
chain = Quarter([("ax", "a", "x", 1, 0), ("xb", "x", "b", 1, 0)], ["a", "b"])
[least_side(chain, ("a",)), greatest_side(chain, ("a",)), side_width(chain, ["a", "x"]), greatest_side(chain, ("b",))]
# [['a'], ['a', 'x'], 1, ['b', 'x']]
[is_entry_paper(chain, "most", ("a",), ({"ax": 1, "xb": 1}, ["a"])), is_entry_paper(chain, "way", ("a", "b"), ([("ax", "a", "x", 1, 0), ("xb", "x", "b", 1, 0)], {"a": 0, "b": 0, "x": 0}))]
# [True, True]
link = Town([("t", "a", "b", 99, 0)])
[answer_by(["a", "b", "c"], "most", table_of(ring, "most"), link, "a", "c"), answer_by(["a", "b", "c"], "most", table_of(star, "most"), link, "a", "c"), answer_by(["a", "b", "c"], "way", table_of(ring, "way"), link, "a", "c")]
# [1, 2, 1]
'''

ALIKE = '''
from gatequarters.alike import alike_measures, are_even, asked, gates_needed, is_alike, is_notice, notice_size, unlike_keys
from gatequarters.quarters import Quarter, Town
one, two = Quarter([("main", "in", "out", 2, 1)], ["in", "out"]), Quarter([("left", "in", "out", 1, 1), ("right", "in", "out", 1, 1)], ["in", "out"])
[alike_measures(one, two), is_alike(one, two, "widest"), unlike_keys(one, two, "shut1")]
# [['most', 'shut2', 'way'], False, [('in',)]]
ring = Quarter([("ab", "a", "b", 1, 1), ("bc", "b", "c", 1, 1), ("ca", "c", "a", 1, 1)], ["a", "b", "c"])
star = Quarter([("ax", "a", "x", 1, 1), ("bx", "b", "x", 1, 1), ("cx", "c", "x", 1, 1), ("xa", "x", "a", 9, 1), ("xb", "x", "b", 9, 1), ("xc", "x", "c", 9, 1)], ["a", "b", "c"])
link = Town([("t", "a", "b", 99, 0)])
[unlike_keys(ring, star, "most"), asked(ring, "most", link, "a", "c"), asked(star, "most", link, "a", "c")]
# [[('a', 'b'), ('a', 'c'), ('b', 'c')], 1, 2]
[is_notice(ring, star, "most", (link, "a", "c")), is_notice(ring, star, "most", (Town([]), "a", "c")), notice_size(ring, star, "most"), gates_needed(ring, star, "most"), gates_needed(one, two, "widest")]
# [True, False, 1, 3, 2]
[are_even(["a", "b"], "most", Town([("t", "a", "b", 1, 0)]), Town([("t", "a", "b", 1, 5), ("u", "b", "a", 9, 0)]), "a", "b"), are_even(["a", "b"], "way", Town([("t", "a", "b", 1, 0)]), Town([("t", "a", "b", 1, 5)]), "a", "b")]
# [True, False]
'''

ORDERS = '''
from gatequarters.orders import greatest_loss, is_worse_town, least_width, mending_lots, never_worse, standing, worse_entries
from gatequarters.quarters import Quarter, Town
one = Quarter([("main", "in", "out", 2, 1)], ["in", "out"])
two = Quarter([("left", "in", "out", 1, 1), ("right", "in", "out", 1, 1)], ["in", "out"])
row = Quarter([("first", "in", "mid", 1, 1), ("second", "mid", "out", 1, 1)], ["in", "out"])
ring = Quarter([("ab", "a", "b", 1, 1), ("bc", "b", "c", 1, 1), ("ca", "c", "a", 1, 1)], ["a", "b", "c"])
into, out = [("ax", "a", "x", 1, 1), ("bx", "b", "x", 1, 1), ("cx", "c", "x", 1, 1)], [("xa", "x", "a", 9, 1), ("xb", "x", "b", 9, 1), ("xc", "x", "c", 9, 1)]
star = Quarter(into + out, ["a", "b", "c"])
[standing(one, two, measure) for measure in ["way", "widest", "most", "shut1"]]
# ['alike', 'worse', 'alike', 'better']
[standing(ring, star, "most"), worse_entries(star, ring, "most"), standing(ring, star, "way"), worse_entries(ring, star, "way")]
# ['better', [('a', 'b'), ('a', 'c'), ('b', 'c')], 'worse', [('a', 'b'), ('b', 'c'), ('c', 'a')]]
[never_worse(two, one, "shut1"), worse_entries(one, two, "widest"), is_worse_town(one, two, "widest", (Town([]), "in", "out"))]
# [False, [('in', 'out')], True]
[is_worse_town(star, ring, "most", (Town([("tie", "a", "c", 9, 1)]), "a", "b")), is_worse_town(star, ring, "most", (Town([]), "a", "b"))]
# [True, False]
[mending_lots(one, two, "widest"), mending_lots(one, row, "most"), mending_lots(one, row, "way"), mending_lots(row, one, "way")]
# [[['left'], ['right']], [['first', 'second']], [['first'], ['second']], [[]]]
[greatest_loss(star, ring, "most"), greatest_loss(one, two, "widest"), least_width(one, two, "left", "widest"), least_width(one, row, "first", "most")]
# [1, 1, 2, None]
'''

ROOMS = '''
from gatequarters.quarters import Quarter
from gatequarters.rooms import are_trade_bars, length_room, noticed_at, trade_room, width_bars, width_room
two = Quarter([("left", "in", "out", 1, 1), ("right", "in", "out", 1, 1)], ["in", "out"])
pair = Quarter([("thin", "in", "out", 1, 3), ("wide", "in", "out", 2, 1)], ["in", "out"])
neck = Quarter([("last", "mid", "out", 1, 0), ("left", "in", "mid", 1, 1), ("right", "in", "mid", 1, 1)], ["in", "out"])
into, out = [("ax", "a", "x", 1, 1), ("bx", "b", "x", 1, 1), ("cx", "c", "x", 1, 1)], [("xa", "x", "a", 9, 1), ("xb", "x", "b", 9, 1), ("xc", "x", "c", 9, 1)]
star = Quarter(into + out, ["a", "b", "c"])
[width_room(two, "left", "most"), width_room(star, "xa", "most"), width_bars(star, "xa", "most"), noticed_at(star, "xa", 1, "most")]
# [(1, 1), (2, None), (('b', 'c'), None), [('b', 'c')]]
[width_room(pair, "thin", "widest"), width_bars(pair, "thin", "widest"), width_room(pair, "wide", "widest"), width_room(pair, "thin", "way")]
# [(0, 2), (None, ('in', 'out')), (2, 2), (0, None)]
[length_room(pair, "thin"), length_room(pair, "wide"), width_room(neck, "left", "most"), trade_room(neck, "left", 0, "right", "most")]
# [(1, None), (1, 1), (0, None), (1, None)]
[trade_room(two, "left", 2, "right", "most"), trade_room(two, "left", 3, "right", "most"), are_trade_bars(two, "left", 3, "right", "most", [("in",)])]
# [(0, 0), None, True]
'''

SPARES = '''
from gatequarters.quarters import Quarter
from gatequarters.spares import dead_streets, harmful_lots, is_spare, spare_lots, sure_streets, unspared_streets, wide_lots, with_shut, with_widened
two = Quarter([("left", "in", "out", 1, 1), ("right", "in", "out", 1, 1)], ["in", "out"])
passage = Quarter([("ax", "a", "x", 1, 1), ("left", "x", "b", 1, 1), ("right", "x", "b", 1, 2), ("dead", "x", "y", 5, 1)], ["a", "b"])
[spare_lots(two, "most"), spare_lots(two, "way"), harmful_lots(two, "way"), spare_lots(two, "widest")]
# [[[]], [['left'], ['right']], [['left', 'right']], [['left'], ['right']]]
[spare_lots(passage, "most"), harmful_lots(passage, "most"), unspared_streets(passage, "most"), unspared_streets(passage, "way")]
# [[['dead', 'left'], ['dead', 'right']], [['ax'], ['left', 'right']], ['ax'], ['ax', 'left']]
[is_spare(passage, "most", ["left"]), is_spare(passage, "way", ["right"]), is_spare(passage, "most", ["left", "right"]), is_spare(passage, "most", ("left",))]
# [True, True, False, False]
[wide_lots(passage, "most"), wide_lots(two, "most"), wide_lots(two, "way")]
# [[['dead', 'left', 'right']], [[]], [['left', 'right']]]
[sure_streets(passage), dead_streets(passage), with_shut(two, ["left"]).streets()]
# [['ax'], ['dead'], [('left', 'in', 'out', 0, 1), ('right', 'in', 'out', 1, 1)]]
with_widened(two, ["left"]).streets()
# [('left', 'in', 'out', 3, 1), ('right', 'in', 'out', 1, 1)]
single = Quarter([("main", "in", "out", 2, 1)], ["in", "out"])
[spare_lots(single, "shut1"), spare_lots(single, "most")]
# [[['main']], [[]]]
'''

FAILING = '''
from gatequarters.failing import cutting_streets, doubled, fewest_doubled, loss_by_shutting, is_failing_paper, is_fewest_doubled, is_losing_town, is_safe, is_worst_shutting, losses, lowering_streets, most_left
from gatequarters.quarters import Quarter, Town
two = Quarter([("left", "in", "out", 1, 1), ("right", "in", "out", 1, 1)], ["in", "out"])
passage = Quarter([("ax", "a", "x", 1, 1), ("left", "x", "b", 1, 1), ("right", "x", "b", 1, 2), ("dead", "x", "y", 5, 1)], ["a", "b"])
[[most_left(two, ("in",), many) for many in [0, 1, 2]], most_left(two, ("out",), 0), most_left(passage, ("a",), 1)]
# [[2, 1, 0], 0, 0]
[is_worst_shutting(two, ("in",), 1, ["left"]), is_worst_shutting(two, ("in",), 1, ["left", "right"]), is_worst_shutting(two, ("out",), 1, []), is_worst_shutting(passage, ("a",), 2, ["ax"])]
# [True, False, True, True]
paper = [(["left"], {"left": 0, "right": 1}), (["right"], {"left": 1, "right": 0})]
[is_failing_paper(two, ("in",), 1, paper), is_failing_paper(two, ("in",), 1, paper[:1]), is_failing_paper(two, ("in",), 0, [([], {"left": 1, "right": 1})])]
# [True, False, True]
[lowering_streets(two, ("in",)), lowering_streets(passage, ("a",)), cutting_streets(two, ("in",)), cutting_streets(passage, ("a",))]
# [['left', 'right'], ['ax'], ['left', 'right'], ['ax']]
[losses(two, 1), loss_by_shutting(two, 2), is_safe(two, 0), is_safe(two, 1), loss_by_shutting(passage, 1)]
# [{('in',): 1, ('out',): 0}, 2, True, False, 1]
[is_losing_town(two, 1, (Town([]), "in", "out")), is_losing_town(two, 1, (Town([]), "out", "in"))]
# [True, False]
[is_fewest_doubled(two, ["left"]), is_fewest_doubled(two, ["left", "right"]), fewest_doubled(passage), doubled(two, ["left"]).streets()]
# [True, False, ['ax'], [('a', 'in', 'out', 1, 1), ('left', 'in', 'out', 1, 1), ('right', 'in', 'out', 1, 1)]]
three = Quarter([("north", "in", "out", 1, 1), ("mid", "in", "out", 1, 1), ("south", "in", "out", 2, 1)], ["in", "out"])
[[most_left(three, ("in",), many) for many in [0, 1, 2]], is_fewest_doubled(three, ["south"]), is_fewest_doubled(three, ["mid"])]
# [[4, 2, 1], True, False]
'''

GLUING = '''
from gatequarters.gluing import alike_inside, entry_room, glued, glued_table, pieces_of
from gatequarters.quarters import Quarter
one = Quarter([("main", "in", "out", 2, 1)], ["in", "out"])
two = Quarter([("left", "in", "out", 1, 1), ("right", "in", "out", 1, 1)], ["in", "out"])
chain = ([{"in": "a", "out": "m"}, {"in": "m", "out": "b"}], ["a", "b"])
mosts = [{"most": {("in",): 2, ("out",): 0}, "shut1": {("in",): 0, ("out",): 0}}, {"most": {("in",): 2, ("out",): 0}, "shut1": {("in",): 1, ("out",): 0}}]
[glued_table("most", mosts, chain), glued_table("shut1", mosts, chain)]
# [{('a',): 2, ('b',): 0}, {('a',): 0, ('b',): 0}]
ways = [{"way": {("in", "out"): 1, ("out", "in"): None}}] * 2
[glued_table("way", ways, chain), entry_room("way", ways, chain, 0, ("in", "out")), entry_room("way", ways, chain, 1, ("out", "in"))]
# [{('a', 'b'): 2, ('b', 'a'): None}, (1, 1), (0, None)]
[entry_room("most", mosts, chain, 0, ("in",)), entry_room("most", mosts, ([{"in": "a", "out": "b"}] * 2, ["a", "b"]), 0, ("in",))]
# [(2, None), (2, 2)]
[alike_inside([one, two], chain, 0, two, "widest"), alike_inside([one, two], chain, 0, two, "most"), alike_inside([one, two], chain, 0, two, "shut1")]
# [True, True, False]
ring = Quarter([("ab", "a", "b", 1, 1), ("bc", "b", "c", 1, 1), ("ca", "c", "a", 1, 1)], ["a", "b", "c"])
pieces_of(ring, [["ab"], ["bc", "ca"]])[1]
# ([{'a': 'a', 'b': 'b'}, {'a': 'a', 'b': 'b', 'c': 'c'}], ['a', 'b', 'c'])
len(glued([ring, ring], ([{"a": "a", "b": "b", "c": "c"}, {"a": "c", "b": "d", "c": "a"}], ["a", "b", "d"])).streets())
# 6
'''

LEAST = '''
from gatequarters.least import are_parts, barring_rows, can_be, crossings_wanted, is_least_parting, is_lone_pair, is_made_quarter, merged
from gatequarters.quarters import Quarter
chain = Quarter([("ax", "a", "x", 1, 0), ("xb", "x", "b", 2, 0)], ["a", "b"])
merged(chain, [["a"], ["b", "x"]]) == Quarter([("ax", "a", "b", 1, 0)], ["a", "b"])
# True
[is_least_parting(chain, [["a"], ["b", "x"]]), is_least_parting(chain, [["a", "x"], ["b"]]), is_least_parting(chain, [["a"], ["b"], ["x"]])]
# [True, False, False]
three, star = ["a", "b", "c"], {("a",): 1, ("a", "b"): 2, ("a", "c"): 2, ("b",): 1, ("b", "c"): 2, ("c",): 1}
wild = {("a",): 1, ("a", "b"): 3, ("a", "c"): 2, ("b",): 1, ("b", "c"): 2, ("c",): 1}
[can_be(three, star), crossings_wanted(three, star), barring_rows(three, star), can_be(three, wild), barring_rows(three, wild), crossings_wanted(three, wild)]
# [True, 1, [], False, [(('a',), ('b',))], None]
[are_parts(three, star, ({("a", "b"): 0, ("a", "c"): 0, ("b", "a"): 0, ("b", "c"): 0, ("c", "a"): 0, ("c", "b"): 0}, ("out", {"a": 1, "b": 1, "c": 1}))), is_made_quarter(["a", "b"], {("a",): 2, ("b",): 0}, Quarter([("s", "a", "b", 2, 0)], ["a", "b"]))]
# [True, True]
[is_lone_pair(["a", "b"], ("a",), (Quarter([], ["a", "b"]), Quarter([("s", "a", "b", 1, 0)], ["a", "b"]))), is_lone_pair(["a", "b"], ("b",), (Quarter([], ["a", "b"]), Quarter([("s", "a", "b", 1, 0)], ["a", "b"])))]
# [True, False]
'''

PRICES = '''
from gatequarters.prices import are_price_alike, are_price_heights, barring_lot, cheapest, cost_of, costs, is_never_dearer, price_list, price_of, price_town, unlike_supply
from gatequarters.quarters import Quarter, Town
one = Quarter([("main", "in", "out", 2, 1)], ["in", "out"])
two = Quarter([("left", "in", "out", 1, 1), ("right", "in", "out", 1, 1)], ["in", "out"])
three = Quarter([("near", "in", "out", 1, 1), ("far", "in", "out", 1, 3)], ["in", "out"])
four = Quarter([("near", "in", "out", 1, 1), ("far", "in", "out", 1, 2)], ["in", "out"])
[cost_of(three, (2, -2)), cost_of(three, (3, -3)), cost_of(three, (-1, 1)), cheapest(three, (1, -1)), barring_lot(three, (3, -3))]
# [4, None, None, {'far': 0, 'near': 1}, ('in',)]
[are_price_heights(three, (2, -2), {"in": 0, "out": 3}), are_price_heights(three, (2, -2), {"in": 0, "out": 1}), are_price_heights(three, (1, -1), {"in": 0, "out": 1})]
# [True, False, True]
[costs(three), costs(one) == costs(two), are_price_alike(one, two), unlike_supply(three, four), is_never_dearer(three, four)]
# [{(0, 0): 0, (1, -1): 1, (2, -2): 4}, True, True, (2, -2), True]
[price_list(three, Town([]), "in", "out"), price_of(three, Town([("by", "in", "out", 1, 2)]), "in", "out", 2)]
# [[0, 1, 4], 3]
town, start, goal, number = price_town(three, (2, -2))
[price_of(three, town, start, goal, number), price_of(four, town, start, goal, number)]
# [4, 3]
'''

WORKS = '''
from gatequarters.quarters import Quarter
from gatequarters.works import best_kept, during, fewest_nights, is_bar, is_safe_order, lots_reached, safe_order, stage_of, bad_moment
pair = Quarter([("left", "in", "out", 1, 1), ("right", "in", "out", 1, 1)], ["in", "out"])
thin, one = Quarter([("main", "in", "out", 1, 9)], ["in", "out"]), Quarter([("main", "in", "out", 2, 1)], ["in", "out"])
wider = [("left", "in", "out", 2, 1), ("right", "in", "out", 2, 1)]
stage_of(pair, wider, [1]).streets()
# [('left', 'in', 'out', 1, 1), ('right', 'in', 'out', 2, 1)]
during(pair, wider, [], [0]).streets()
# [('left', 'in', 'out', 0, 1), ('right', 'in', 'out', 1, 1)]
[is_safe_order(pair, wider, thin, "most", [0, 1]), is_safe_order(pair, wider, thin, "most", [1, 0]), safe_order(pair, wider, one, "most"), lots_reached(pair, wider, one, "most")]
# [True, True, None, [[]]]
[is_bar(pair, wider, one, "most", [[]]), is_bar(pair, wider, thin, "most", [[]]), lots_reached(pair, wider, thin, "most")]
# [True, False, [[], [0], [1], [0, 1]]]
more = wider + [("detour", "in", "out", 1, 5)]
[is_safe_order(pair, more, one, "most", [2, 0, 1]), is_safe_order(pair, more, one, "most", [0, 2, 1]), lots_reached(pair, more, one, "most")]
# [True, False, [[], [2], [0, 2], [1, 2], [0, 1, 2]]]
[best_kept(pair, wider, "most", ("in",)), best_kept(pair, more, "most", ("in",)), best_kept(pair, wider, "way", ("in", "out")), bad_moment(pair, wider, thin, "most", [1, 0])]
# [1, 2, 1, None]
[fewest_nights(pair, wider, thin, "most", 2), fewest_nights(pair, more, one, "most", 3), fewest_nights(pair, more, thin, "most", 2), fewest_nights(pair, wider, one, "most", 2)]
# [2, 3, 2, None]
'''

CITY = '''
from gatequarters.city import City
from gatequarters.quarters import Quarter
main, neck = Quarter([("main", "in", "out", 2, 1)], ["in", "out"]), Quarter([("neck", "out", "end", 1, 1)], ["out", "end"])
wide = Quarter([("main", "in", "out", 7, 1), ("more", "in", "out", 1, 0)], ["in", "out"])
city = City(["in", "end"])
[city.put(main), city.put(neck), city.promise("most", "alike"), city.promise("way", "never_worse"), city.spots()]
# [0, 1, 0, 1, [0, 1]]
[city.barring(0, wide), city.exchange(0, wide), city.broken(), city.quarter(0) == wide, city.kept_widths(0, "main"), city.kept_widths(1, "neck")]
# [[], None, [], True, [0, 1, 2, 3, 4, 5, 6, 7, 8, 9], [1]]
[city.promise("way", "alike"), city.kept_lengths(0, "more"), city.kept_lengths(0, "main"), city.spare_streets(0)]
# [2, [0], [0, 1, 2, 3, 4, 5, 6, 7, 8, 9], ['main']]
[city.barring(0, main), city.force(0, main), city.broken(), city.witness(0), city.undo(), city.broken()]
# [[2], None, [2], None, None, []]
'''

SCRIPTS = r'''
from gatequarters.city import City
from gatequarters.quarters import Quarter
from gatequarters.scripts import end_of, play, read_script, script_text, shortened
main, neck = Quarter([("main", "in", "out", 2, 1)], ["in", "out"]), Quarter([("neck", "out", "end", 1, 1)], ["out", "end"])
wide = Quarter([("main", "in", "out", 7, 1), ("more", "in", "out", 1, 0)], ["in", "out"])
day = [("put", main), ("put", neck), ("promise", "most", "alike"), ("exchange", 0, wide), ("broken",), ("promise", "way", "alike"), ("barring", 0, main)]
play(City(["in", "end"]), day + [("exchange", 0, main), ("force", 0, main), ("broken",), ("undo",), ("spare", 0)])
# [('put', 0), ('put', 1), ('promised', 0), ('done',), ('broken', []), ('promised', 1), ('barred', [1]), ('refused', 'Refused'), ('done',), ('broken', [1]), ('done',), ('spare', ['main'])]
[end_of(["in", "end"], day)[0] == {0: wide, 1: neck}, len(end_of(["in", "end"], day)[1]), read_script(script_text(day)) == day]
# [True, 2, True]
script_text([("try", [("put", neck)]), ("promise", "way", "never_worse"), ("change", 0, [])])
# 'try\n  put\n    neck out end 1 1\n    gates end out\n  end\nend\npromise way never_worse\nchange 0\nend'
shortened(["in", "end"], [("put", neck), ("broken",), ("undo",), ("redo",)]) == [("put", neck), ("redo",)]
# True
'''

PAPERS = r'''
from gatequarters.papers import change_text, flow_text, quarter_text, read_change, read_quarter, read_table, table_text, town_text
from gatequarters.quarters import Quarter, Town
quarter_text(Quarter([("main", "in", "out", 2, 1), ("back", "out", "in", 0, 12)], ["out", "in"]))
# 'back out in 0 12\nmain in out 2 1\ngates in out'
[read_quarter("gates a") == Quarter([], ["a"]), town_text(Town([])), change_text(("put", ("ab", "a", "b", 1, 0))), read_change("width ab 10")]
# [True, '', 'put ab a b 1 0', ('width', 'ab', 10)]
[table_text({("b", "a"): None, ("a", "b"): 3}), table_text({(1, -1): 4, (-1, 1): None}), read_table("a = 0\na b = none")]
# ['a b = 3\nb a = none', '-1 1 = none\n1 -1 = 4', {('a',): 0, ('a', 'b'): None}]
flow_text({("town", "ab"): 2, ("quarter", "zz"): 0})
# 'quarter zz 0\ntown ab 2'
'''


class Examples(unittest.TestCase):
    def run_rows(self, rows, many):
        """Run rows of code; each result that is told, behind "# ", is that of the row ahead."""
        names = {}
        told = 0
        for row, behind in zip(rows, rows[1:] + [""]):
            if behind.startswith("# "):
                self.assertEqual(plain(eval(row, names)), plain(eval(behind[2:])), row)
                told += 1
            elif not row.startswith("# "):
                exec(row, names)
        self.assertEqual(told, many)

    def run_block(self, block, many):
        self.run_rows(block.strip().split("\n"), many)

    def test_quarters(self):
        self.run_block(QUARTERS, 3)

    def test_ways(self):
        self.run_block(WAYS, 6)

    def test_flows(self):
        self.run_block(FLOWS, 6)

    def test_tables(self):
        self.run_block(TABLES, 6)

    def test_alike(self):
        self.run_block(ALIKE, 4)

    def test_orders(self):
        self.run_block(ORDERS, 6)

    def test_rooms(self):
        self.run_block(ROOMS, 4)

    def test_spares(self):
        self.run_block(SPARES, 7)

    def test_failing(self):
        self.run_block(FAILING, 8)

    def test_gluing(self):
        self.run_block(GLUING, 6)

    def test_least(self):
        self.run_block(LEAST, 5)

    def test_prices(self):
        self.run_block(PRICES, 5)

    def test_works(self):
        self.run_block(WORKS, 7)

    def test_city(self):
        self.run_block(CITY, 4)

    def test_scripts(self):
        self.run_block(SCRIPTS, 4)

    def test_papers(self):
        self.run_block(PAPERS, 4)

    def test_readme(self):
        readme = pathlib.Path(__file__).resolve().parent.parent / "README.md"
        code = readme.read_text(encoding="utf-8").split("```python\n")[1].split("```")[0]
        rows = []
        for row in code.strip().split("\n"):
            # In the README a result stands behind its row.
            rows.extend(part.strip() for part in row.replace("  # ", "\n# ").split("\n"))
        self.run_rows([row for row in rows if row], sum(row.startswith("# ") for row in rows))
        self.assertGreater(len(rows), 8)


if __name__ == "__main__":
    unittest.main()
