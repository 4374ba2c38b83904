"""Each function of the interface with arguments that are right, and what refuses wrong ones."""

from gatequarters import alike, city, errors, failing, flows, gluing, least, orders, papers, prices, quarters, rooms
from gatequarters import scripts, spares, tables, ways, works
from gatequarters.city import City
from gatequarters.quarters import Quarter, Town
from tests.support import HOME, LANE, ONE, TWO, plain

REFUSED = {
    "streets": errors.InvalidStreets, "gates": errors.InvalidGates, "start": errors.InvalidPlace,
    "goal": errors.InvalidPlace, "name": errors.InvalidName, "street": errors.InvalidName,
    "change": errors.InvalidChange, "changes": errors.InvalidChanges, "width": errors.InvalidCount,
    "amount": errors.InvalidCount, "many": errors.InvalidCount, "flow": errors.InvalidFlow,
    "cut": errors.InvalidCut, "side": errors.InvalidCut, "names": errors.InvalidLot, "lot": errors.InvalidLot,
    "key": errors.InvalidLot, "measure": errors.InvalidMeasure, "table": errors.InvalidTable,
    "other": errors.InvalidName, "quarters": errors.InvalidQuarters, "plan": errors.InvalidPlan,
    "tables": errors.InvalidTable, "at": errors.InvalidCount, "dealing": errors.InvalidDealing,
    "places": errors.InvalidPlace, "parting": errors.InvalidParting, "supply": errors.InvalidSupply,
    "number": errors.InvalidCount, "works": errors.InvalidStreets, "now": errors.InvalidLot,
    "most_works": errors.InvalidCount, "order": errors.InvalidLot, "log": errors.InvalidLog,
    "script": errors.InvalidScript, "text": errors.InvalidText,
}
STREETS = [("main", "in", "out", 2, 1), ("back", "out", "mid", 0, 3)]
ASKED = {"quarter": TWO, "town": HOME, "start": "home", "goal": "shop"}
ROW = [("town", "go"), ("quarter", "left"), ("town", "come")]
MARKS = {("gate", "in"): 1, ("gate", "out"): 2, ("town", "home"): 0, ("town", "shop"): 4}
FLOW = {("quarter", "left"): 1, ("quarter", "right"): 0, ("town", "come"): 1, ("town", "go"): 1}
FULL = {("quarter", "left"): 1, ("quarter", "right"): 1, ("town", "come"): 2, ("town", "go"): 2}
CUT = [("gate", "in"), ("town", "home")]
MOST = {("in",): 2, ("out",): 0}
SLOW = Town([("go", "home", "in", 2, 1), ("come", "out", "shop", 5, 2)])
EVEN = {"gates": ["out", "in"], "measure": "most", "one": HOME, "other": SLOW, "start": "home", "goal": "shop"}
PAIR = {"elder": ONE, "newer": TWO}
FIRST = {"quarter": TWO, "name": "left", "measure": "most"}
TRADE = {"quarter": TWO, "name": "left", "width": 7, "other": "right", "measure": "most"}
FAILING = {"quarter": TWO, "lot": ("in",), "many": 1}
CHANGES = [("width", "left", 2), ("width", "right", 0)]
PAPER = [(["left"], {"left": 0, "right": 1}), (["right"], {"left": 1, "right": 0})]

CHAIN = ([{"in": "a", "out": "m"}, {"in": "m", "out": "b"}], ["a", "b"])
TABLES = [{"most": {("in",): 2, ("out",): 0}, "way": {("in", "out"): 1, ("out", "in"): None}}] * 2
THREE = ["c", "a", "b"]
STAR = {("a",): 1, ("a", "b"): 2, ("a", "c"): 2, ("b",): 1, ("b", "c"): 2, ("c",): 1}
PARTS = ({pair: 0 for pair in [("a", "b"), ("a", "c"), ("b", "a"), ("b", "c"), ("c", "a"), ("c", "b")]},
         ("out", {"a": 1, "b": 1, "c": 1}))
TRIPOD = Quarter([("ax", "a", "x", 1, 1), ("bx", "b", "x", 1, 1), ("cx", "c", "x", 1, 1), ("xa", "x", "a", 9, 1),
                  ("xb", "x", "b", 9, 1), ("xc", "x", "c", 9, 1)], ["a", "b", "c"])
CUT_OFF = Quarter([("ax", "a", "x", 1, 0), ("xb", "x", "b", 2, 0)], ["a", "b"])
LONE = (Quarter([], ["a", "b"]), Quarter([("s", "a", "b", 1, 0)], ["a", "b"]))
SENT = {"quarter": TWO, "supply": (2, -2)}
DEARER = {"elder": TWO, "newer": Quarter([("left", "in", "out", 1, 1), ("right", "in", "out", 1, 3)], ["in", "out"])}
WIDER = [("left", "in", "out", 2, 1), ("right", "in", "out", 2, 1)]
SITE = {"quarter": TWO, "works": WIDER, "floor": Quarter([("thin", "in", "out", 1, 9)], ["in", "out"]),
        "measure": "most"}
HIGH = {**SITE, "floor": ONE}
KEPT = {"quarter": TWO, "works": WIDER, "measure": "most", "key": ("in",)}


def small_city(*rows):
    """Return a city with one quarter, a promise, a further command, and one that was taken back."""
    told = City(["in", "out"])
    told.put(ONE)
    told.promise("most", "never_worse")
    told.change(0, [("width", "main", 3)])
    for quarter in rows:
        told.put(quarter)
    told.undo()
    return told


SCRIPT = [("try", [("put", ONE), ("change", 0, [("out", "main")]), ("broken",)]), ("take", 7), ("spare", 0)]
LOG = [("put", TWO), ("change", 0, [("width", "main", 5)]), ("release", 0)]

# Each function with arguments that are right; a judge's value is such that it is true.
CALLS = [
    (Quarter, {"streets": STREETS, "gates": ["out", "in"]}),
    (Town, {"streets": STREETS}),
    (quarters.crossings_of, {"quarter": LANE}),
    (quarters.street_of, {"quarter": LANE, "name": "ab"}),
    (quarters.places_of, {"town": HOME}),
    (quarters.asked_of, {"quarter": LANE, "town": HOME}),
    (quarters.changed, {"quarter": ONE, "change": ("width", "main", 7)}),
    (quarters.changed_by, {"quarter": ONE, "changes": [("out", "main"), ("put", ("main", "out", "in", 2, 1))]}),
    (quarters.told_changes, {"elder": ONE, "newer": TWO}),
    (quarters.are_changes, {"elder": ONE, "newer": ONE, "value": []}),
    (quarters.mirrored, {"quarter": LANE}),
    (quarters.idle_names, {"quarter": LANE}),
    (quarters.trimmed, {"quarter": LANE}),
    (quarters.live_row, {"quarter": LANE, "name": "ab"}),
    (quarters.is_live_row, {"quarter": LANE, "name": "ab", "value": [("ab", "a", "b", 2, 1)]}),
    (ways.net_streets, {"quarter": LANE, "town": HOME}),
    (ways.net_places, {"quarter": LANE, "town": HOME}),
    (ways.is_way, {**ASKED, "value": ROW}),
    (ways.way_length, ASKED),
    (ways.shortest_way, ASKED),
    (ways.is_shortest_way, {**ASKED, "value": ROW}),
    (ways.heights, ASKED),
    (ways.are_heights, {**ASKED, "value": MARKS}),
    (ways.way_width, ASKED),
    (ways.widest_way, ASKED),
    (ways.is_widest_way, {**ASKED, "value": ROW}),
    (ways.narrow_lot, ASKED),
    (ways.is_narrow_lot, {**ASKED, "value": CUT}),
    (ways.used_streets, ASKED),
    (ways.needed_streets, ASKED),
    (ways.wide_length, {**ASKED, "width": 1}),
    (ways.trades, ASKED),
    (flows.is_flow, {**ASKED, "value": FLOW}),
    (flows.amount_of, {**ASKED, "flow": FLOW}),
    (flows.is_cut, {**ASKED, "value": CUT}),
    (flows.streets_of_cut, {**ASKED, "cut": CUT}),
    (flows.cut_width, {**ASKED, "cut": CUT}),
    (flows.most, ASKED),
    (flows.top_flow, ASKED),
    (flows.least_cut, ASKED),
    (flows.is_top_flow, {**ASKED, "value": FULL}),
    (flows.is_least_cut, {**ASKED, "value": CUT}),
    (flows.paper_of, ASKED),
    (flows.is_paper, {**ASKED, "value": (FULL, CUT)}),
    (flows.near_cut, ASKED),
    (flows.far_cut, ASKED),
    (flows.narrow_streets, ASKED),
    (flows.helping_streets, ASKED),
    (flows.flow_of, {**ASKED, "amount": 1}),
    (flows.parting_of, {**ASKED, "flow": FLOW}),
    (flows.is_parting, {**ASKED, "flow": FLOW, "value": [(1, ROW)]}),
    (flows.least_on, {**ASKED, "street": ("quarter", "left")}),
    (flows.greatest_on, {**ASKED, "street": ("town", "go")}),
    (flows.most_shut, {**ASKED, "names": ["left"]}),
    (flows.worst_shut, {**ASKED, "many": 1}),
    (flows.is_worst_shut, {**ASKED, "many": 1, "value": ["right"]}),
    (tables.lots_of, {"quarter": TWO}),
    (tables.side_width, {"quarter": LANE, "side": ["a", "x"]}),
    (tables.least_side, {"quarter": LANE, "lot": ("a", "c")}),
    (tables.greatest_side, {"quarter": LANE, "lot": ("a", "c")}),
    (tables.is_narrowest_side, {"quarter": TWO, "lot": ("in",), "value": ["in"]}),
    (tables.table_of, {"quarter": LANE, "measure": "shut1"}),
    (tables.lot_flow, {"quarter": TWO, "lot": ("in",)}),
    (tables.is_lot_flow, {"quarter": TWO, "lot": ("in",), "value": {"left": 1, "right": 1}}),
    (tables.entry_paper, {"quarter": TWO, "measure": "shut1", "key": ("in",)}),
    (tables.is_entry_paper, {"quarter": TWO, "measure": "widest", "key": ("out", "in"), "value": (None, ["out"])}),
    (tables.is_table, {"gates": ["out", "in"], "measure": "most", "value": MOST}),
    (tables.answer_by, {"gates": ["out", "in"], "measure": "most", "table": MOST, "town": HOME, "start": "home",
                        "goal": "shop"}),
    (alike.alike_measures, {"one": ONE, "other": TWO}),
    (alike.is_alike, {"one": ONE, "other": TWO, "measure": "most"}),
    (alike.asked, {"quarter": TWO, "measure": "shut2", "town": HOME, "start": "home", "goal": "shop"}),
    (alike.notice_of, {"one": ONE, "other": TWO, "measure": "widest"}),
    (alike.notice_size, {"one": ONE, "other": TWO, "measure": "shut1"}),
    (alike.is_notice, {"one": ONE, "other": TWO, "measure": "widest", "value": (HOME, "home", "shop")}),
    (alike.unlike_keys, {"one": ONE, "other": TWO, "measure": "shut1"}),
    (alike.notice_at, {"one": ONE, "other": TWO, "measure": "widest", "key": ("in", "out")}),
    (alike.gates_needed, {"one": ONE, "other": TWO, "measure": "shut1"}),
    (alike.are_even, EVEN),
    (alike.hearing_quarter, EVEN),
    (alike.is_hearing_quarter, {**EVEN, "value": Quarter([("wide", "in", "out", 3, 0)], ["in", "out"])}),
    (orders.never_worse, {**PAIR, "measure": "shut1"}),
    (orders.worse_entries, {**PAIR, "measure": "widest"}),
    (orders.standing, {**PAIR, "measure": "widest"}),
    (orders.greatest_loss, {**PAIR, "measure": "widest"}),
    (orders.worse_town, {**PAIR, "measure": "widest"}),
    (orders.is_worse_town, {**PAIR, "measure": "widest", "value": (HOME, "home", "shop")}),
    (orders.mending_lots, {**PAIR, "measure": "widest"}),
    (orders.is_mending, {**PAIR, "measure": "widest", "lot": ["left"]}),
    (orders.least_width, {**PAIR, "name": "left", "measure": "widest"}),
    (rooms.entries_with, {"quarter": TWO, "name": "left", "width": 3, "measure": "most"}),
    (rooms.noticed_at, {"quarter": TWO, "name": "left", "width": 3, "measure": "most"}),
    (rooms.width_room, FIRST),
    (rooms.width_bars, FIRST),
    (rooms.are_width_bars, {**FIRST, "value": (("in",), ("in",))}),
    (rooms.length_room, {"quarter": TWO, "name": "right"}),
    (rooms.length_bars, {"quarter": TWO, "name": "right"}),
    (rooms.are_length_bars, {"quarter": TWO, "name": "right", "value": (("in", "out"), None)}),
    (rooms.trade_room, TRADE),
    (rooms.trade_bars, TRADE),
    (rooms.are_trade_bars, {**TRADE, "value": [("in",)]}),
    (spares.with_shut, {"quarter": TWO, "names": ["left"]}),
    (spares.with_widened, {"quarter": TWO, "names": ["left"]}),
    (spares.is_spare, {"quarter": TWO, "measure": "way", "value": ["left"]}),
    (spares.spare_lots, {"quarter": TWO, "measure": "way"}),
    (spares.unspared_streets, {"quarter": TWO, "measure": "most"}),
    (spares.harmful_lots, {"quarter": TWO, "measure": "way"}),
    (spares.is_wide, {"quarter": TWO, "measure": "way", "value": ["left", "right"]}),
    (spares.wide_lots, {"quarter": TWO, "measure": "way"}),
    (spares.lot_quarter, {"quarter": TWO, "changes": CHANGES, "lot": [0, 1]}),
    (spares.noticed_lots, {"quarter": TWO, "changes": CHANGES, "measure": "most"}),
    (spares.unnoticed_lots, {"quarter": TWO, "changes": CHANGES, "measure": "most"}),
    (spares.sure_streets, {"quarter": ONE}),
    (spares.dead_streets, {"quarter": LANE}),
    (failing.most_left, FAILING),
    (failing.worst_shutting, FAILING),
    (failing.is_worst_shutting, {**FAILING, "value": ["left"]}),
    (failing.failing_paper, FAILING),
    (failing.is_failing_paper, {**FAILING, "value": PAPER}),
    (failing.lowering_streets, {"quarter": TWO, "lot": ("in",)}),
    (failing.cutting_streets, {"quarter": TWO, "lot": ("in",)}),
    (failing.losses, {"quarter": TWO, "many": 1}),
    (failing.is_safe, {"quarter": TWO, "many": 1}),
    (failing.loss_by_shutting, {"quarter": TWO, "many": 1}),
    (failing.losing_town, {"quarter": TWO, "many": 1}),
    (failing.is_losing_town, {"quarter": TWO, "many": 1, "value": (HOME, "home", "shop")}),
    (failing.doubled, {"quarter": TWO, "names": ["left"]}),
    (failing.fewest_doubled, {"quarter": TWO}),
    (failing.is_fewest_doubled, {"quarter": TWO, "value": ["left"]}),
    (gluing.glued, {"quarters": [ONE, TWO], "plan": CHAIN}),
    (gluing.glued_table, {"measure": "most", "tables": TABLES, "plan": CHAIN}),
    (gluing.alike_inside, {"quarters": [ONE, TWO], "plan": CHAIN, "at": 0, "newer": TWO, "measure": "shut1"}),
    (gluing.entry_room, {"measure": "way", "tables": TABLES, "plan": CHAIN, "at": 0, "key": ("in", "out")}),
    (gluing.pieces_of, {"quarter": TWO, "dealing": [["right"], ["left"]]}),
    (gluing.with_town, {"quarter": TWO, "town": HOME, "places": ["shop", "home"]}),
    (least.merged, {"quarter": CUT_OFF, "parting": [["a"], ["b", "x"]]}),
    (least.least_parting, {"quarter": CUT_OFF}),
    (least.is_least_parting, {"quarter": CUT_OFF, "value": [["a"], ["b", "x"]]}),
    (least.side_parting, {"quarter": LANE}),
    (least.barring_rows, {"gates": THREE, "table": {**STAR, ("a", "b"): 9}}),
    (least.can_be, {"gates": THREE, "table": STAR}),
    (least.crossings_wanted, {"gates": THREE, "table": STAR}),
    (least.made_quarter, {"gates": THREE, "table": STAR}),
    (least.is_made_quarter, {"gates": THREE, "table": STAR, "value": TRIPOD}),
    (least.least_alike, {"quarter": LANE}),
    (least.is_least_alike, {"quarter": TRIPOD, "value": TRIPOD}),
    (least.lone_pair, {"gates": THREE, "lot": ("a", "c")}),
    (least.is_lone_pair, {"gates": ["b", "a"], "lot": ("a",), "value": LONE}),
    (least.parts_of, {"gates": THREE, "table": STAR}),
    (least.are_parts, {"gates": THREE, "table": STAR, "value": PARTS}),
    (prices.cost_of, SENT),
    (prices.cheapest, SENT),
    (prices.is_cheapest, {**SENT, "value": {"right": 1, "left": 1}}),
    (prices.price_heights, SENT),
    (prices.are_price_heights, {**SENT, "value": {"out": 1, "in": 0}}),
    (prices.barring_lot, {"quarter": TWO, "supply": (3, -3)}),
    (prices.is_barring_lot, {"quarter": TWO, "supply": (3, -3), "value": ("in",)}),
    (prices.price_of, {**ASKED, "number": 2}),
    (prices.price_list, ASKED),
    (prices.costs, {"quarter": TWO}),
    (prices.are_price_alike, PAIR),
    (prices.unlike_supply, DEARER),
    (prices.is_unlike_supply, {**DEARER, "value": (2, -2)}),
    (prices.price_town, SENT),
    (prices.is_never_dearer, PAIR),
    (prices.dearer_supply, DEARER),
    (prices.is_dearer_supply, {**DEARER, "value": (2, -2)}),
    (works.stage_of, {"quarter": TWO, "works": WIDER, "lot": [1]}),
    (works.during, {"quarter": TWO, "works": WIDER, "lot": [1], "now": [0]}),
    (works.safe_order, SITE),
    (works.is_safe_order, {**SITE, "value": [1, 0]}),
    (works.lots_reached, SITE),
    (works.is_bar, {**HIGH, "value": [[]]}),
    (works.fewest_nights, {**SITE, "most_works": 2}),
    (works.night_lots, {**SITE, "most_works": 2}),
    (works.are_night_lots, {**SITE, "most_works": 2, "value": [[1], [0]]}),
    (works.best_kept, KEPT),
    (works.best_order, KEPT),
    (works.is_best_order, {**KEPT, "value": [1, 0]}),
    (works.bad_moment, {**HIGH, "order": [1, 0]}),
    (works.is_bad_moment, {**HIGH, "order": [1, 0], "value": (0, 1, HOME, "home", "shop")}),
    (City, {"gates": ["out", "in"]}),
    (city.replayed, {"city": small_city(TWO), "log": LOG}),
    (city.told_apart, {"one": small_city(TWO), "other": small_city(), "measure": "most"}),
    (scripts.play, {"city": small_city(), "script": SCRIPT}),
    (scripts.script_text, {"script": SCRIPT}),
    (scripts.read_script, {"text": "put\n  main in out 2 1\n  gates in out\nend\nundo"}),
    (scripts.end_of, {"gates": ["out", "in"], "script": SCRIPT + [("put", TWO)]}),
    (scripts.shortened, {"gates": ["out", "in"], "script": SCRIPT + [("put", TWO)]}),
    (papers.quarter_text, {"quarter": LANE}),
    (papers.read_quarter, {"text": "main in out 2 1\ngates in out"}),
    (papers.town_text, {"town": HOME}),
    (papers.read_town, {"text": "main in out 2 1"}),
    (papers.change_text, {"change": ("width", "main", 7)}),
    (papers.read_change, {"text": "width main 7"}),
    (papers.table_text, {"table": {("b", "a"): None, ("a",): 7}}),
    (papers.read_table, {"text": "a = 7\nb a = none"}),
    (papers.flow_text, {"flow": FLOW}),
    (papers.read_flow, {"text": "quarter left 1\ntown go 1"}),
]

# What is right, too, of the odd objects of the tests, by the names of the arguments.
RIGHT = {
    "streets": [[], STREETS[:1]], "gates": [["main"]], "start": ["in"], "goal": ["in"],
    "width": [0, 1, 7, 10 ** 29], "amount": [0, 1], "many": [0, 1], "change": [("out", "main")],
    "changes": [[], [("out", "main")]], "names": [[]], "side": [[]], "name": [], "street": [], "flow": [],
    "cut": [], "lot": [], "other": [], "measure": [], "table": [], "key": [], "plan": [], "tables": [],
    "quarters": [[Quarter([], ["z"])]], "at": [0, 1], "dealing": [], "places": [], "parting": [],
    "supply": [(0, 0), (1, -1)], "number": [0, 1, 7, 10 ** 29], "works": [[], STREETS[:1]], "now": [[], [0]],
    "most_works": [1, 7, 10 ** 29], "order": [], "log": [[]], "script": [[], [("undo",)]], "text": [],
}
# What is right for some functions alone.
RIGHT_HERE = {
    ("change_text", "change"): [("out", "main"), ("put", STREETS[0])], ("read_town", "text"): [""],
    ("read_table", "text"): [""], ("read_flow", "text"): [""], ("read_script", "text"): [""],
    ("table_text", "table"): [{}, {("gate", "in"): 0}], ("flow_text", "flow"): [{}],
}


def error_for(name, right):
    """Return the error that refuses what is no argument of a name, where this is a right one."""
    if isinstance(right, City):
        return errors.InvalidCity
    if isinstance(right, Quarter):
        return errors.InvalidQuarter
    return errors.InvalidTown if isinstance(right, Town) else REFUSED[name]


def is_right(function, right, name, thing):
    """Return whether an odd object is a right argument of a function, or none is wrong."""
    if name == "value":
        return True
    for kind in (Quarter, Town, City):
        if isinstance(right[name], kind):
            return isinstance(thing, kind)
    if name == "lot" and isinstance(right["lot"], list):
        return plain(thing) in [plain([]), plain([0])]
    if name == "key" and isinstance(right["key"], tuple) and len(right["key"]) == 2:
        return plain(thing) == plain(("in", "out"))
    right_ones = RIGHT_HERE.get((function.__name__, name), RIGHT[name])
    return plain(thing) in [plain(other) for other in right_ones]
