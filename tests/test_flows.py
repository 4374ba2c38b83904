"""[23] to [30]: the edges that the document names, and what is no flow, cut, paper or parting."""

import unittest

from gatequarters import flows
from gatequarters.errors import InvalidCount, InvalidCut, InvalidFlow, InvalidLot, InvalidName, InvalidPlace
from gatequarters.quarters import Quarter, Town
from tests.support import HOME, ONE, TWO

NET = (TWO, HOME, "home", "shop")
GO, COME, LEFT, RIGHT = ("town", "go"), ("town", "come"), ("quarter", "left"), ("quarter", "right")
NONE = Quarter([], ["a"])
# A ring and a street against the way, all of them wide.
BACK = Quarter([("to", "a", "b", 3, 1), ("back", "b", "a", 2, 1), ("loop", "a", "x", 2, 1), ("pool", "x", "a", 2, 1)],
               ["a", "b"])


def numbers(come, go, left, right):
    """Return a dictionary for the four streets of the net."""
    return {COME: come, GO: go, LEFT: left, RIGHT: right}


class Flows(unittest.TestCase):
    def test_what_is_a_flow(self):
        self.assertIs(flows.is_flow(*NET, numbers(0, 0, 0, 0)), True)
        self.assertIs(flows.is_flow(*NET, numbers(2, 2, 1, 1)), True)
        self.assertIs(flows.is_flow(*NET, numbers(2, 2, 2, 0)), False)
        self.assertIs(flows.is_flow(*NET, numbers(1, 2, 1, 1)), False)
        self.assertIs(flows.is_flow(*NET, numbers(True, True, True, 0)), False)
        self.assertIs(flows.is_flow(*NET, list(numbers(0, 0, 0, 0).items())), False)
        self.assertIs(flows.is_flow(*NET, {"come": 0, "go": 0, "left": 0, "right": 0}), False)

    def test_no_less_goes_out_of_the_start_than_comes_in(self):
        flow = {("quarter", "back"): 1, ("quarter", "loop"): 0, ("quarter", "pool"): 0, ("quarter", "to"): 0}
        self.assertIs(flows.is_flow(BACK, Town([]), "a", "b", flow), False)
        self.assertIs(flows.is_flow(BACK, Town([]), "b", "a", flow), True)
        flow[("quarter", "to")] = 1
        self.assertEqual(flows.amount_of(BACK, Town([]), "a", "b", flow), 0)
        flow[("quarter", "to")] = 3
        self.assertEqual(flows.amount_of(BACK, Town([]), "a", "b", flow), 2)

    def test_no_street_at_all(self):
        two = Quarter([], ["a", "b"])
        net = (two, Town([]), "a", "b")
        self.assertEqual(flows.most(*net), 0)
        self.assertEqual(flows.top_flow(*net), {})
        self.assertIs(flows.is_flow(*net, {}), True)
        self.assertEqual(flows.near_cut(*net), [("gate", "a")])
        self.assertEqual(flows.far_cut(*net), [("gate", "a")])
        self.assertEqual(flows.narrow_streets(*net), [])
        self.assertEqual(flows.helping_streets(*net), [])
        self.assertEqual(flows.parting_of(*net, {}), [])
        self.assertIs(flows.is_parting(*net, {}, []), True)
        self.assertEqual(flows.most_shut(*net, []), 0)
        self.assertEqual(flows.worst_shut(*net, 2), [])
        self.assertIs(flows.is_worst_shut(*net, 2, []), True)
        self.assertEqual(flows.flow_of(*net, 0), {})

    def test_one_street_and_one_gate_alone(self):
        town = Town([("on", "a", "s", 3, 1)])
        net = (NONE, town, "a", "s")
        self.assertEqual(flows.most(*net), 3)
        self.assertEqual(flows.paper_of(*net), ({("town", "on"): 3}, [("gate", "a")]))
        self.assertEqual(flows.narrow_streets(*net), [("town", "on")])
        self.assertEqual(flows.helping_streets(*net), [("town", "on")])
        self.assertEqual(flows.most(NONE, town, "s", "a"), 0)

    def test_a_shut_street_helps_and_is_not_narrow(self):
        shut = Quarter([("main", "in", "out", 0, 1)], ["in", "out"])
        net = (shut, Town([]), "in", "out")
        self.assertEqual(flows.helping_streets(*net), [("quarter", "main")])
        self.assertEqual(flows.narrow_streets(*net), [])
        self.assertEqual(flows.streets_of_cut(*net, [("gate", "in")]), [("quarter", "main")])
        self.assertEqual(flows.cut_width(*net, [("gate", "in")]), 0)

    def test_one_word_is_another_place_inside_and_outside(self):
        inner = Quarter([("p", "in", "mid", 4, 1), ("q", "mid", "out", 3, 1)], ["in", "out"])
        town = Town([("r", "in", "mid", 2, 1)])
        self.assertEqual(flows.most(inner, town, "in", "mid"), 2)
        self.assertEqual(flows.most(inner, town, "in", "out"), 3)
        self.assertEqual(flows.far_cut(inner, town, "in", "out"),
                         [("gate", "in"), ("quarter", "mid"), ("town", "mid")])

    def test_what_flows_by_the_shortest_row_is_taken_back_for_two_longer_ones(self):
        streets = [("a", "s", "p", 1, 0), ("b", "p", "q", 1, 0), ("c", "q", "t", 1, 0), ("d", "p", "u", 1, 0),
                   ("e", "u", "v", 1, 0), ("f", "v", "t", 1, 0), ("g", "s", "w", 1, 0), ("h", "w", "x", 1, 0),
                   ("i", "x", "q", 1, 0)]
        net = (Quarter(streets, ["s", "t"]), Town([]), "s", "t")
        self.assertEqual(flows.most(*net), 2)
        flow = {("quarter", street[0]): 0 if street[0] == "b" else 1 for street in streets}
        self.assertEqual(flows.top_flow(*net), flow)
        self.assertEqual(flows.narrow_streets(*net), [("quarter", name) for name in "acdefghi"])
        self.assertEqual(flows.greatest_on(*net, ("quarter", "b")), 0)

    def test_widths_as_great_as_can_be(self):
        wide = Quarter([("main", "in", "out", 20000, 1), ("more", "in", "out", 10 ** 25, 1)], ["in", "out"])
        net = (wide, Town([]), "in", "out")
        self.assertEqual(flows.most(*net), 10 ** 25 + 20000)
        self.assertEqual(flows.amount_of(*net, flows.flow_of(*net, 60)), 60)

    def test_wrong_flows_and_cuts_are_refused(self):
        for flow in (None, {}, numbers(1, 0, 0, 0), numbers(9, 9, 5, 4), [numbers(0, 0, 0, 0)]):
            for call in (flows.amount_of, flows.parting_of):
                with self.assertRaises(InvalidFlow) as caught:
                    call(*NET, flow)
                self.assertIs(caught.exception.value, flow)
            with self.assertRaises(InvalidFlow):
                flows.is_parting(*NET, flow, [])
        for cut in (None, [], [("town", "shop")], [("gate", "in")], [("town", "home"), ("gate", "in")],
                    [("town", "home"), ("town", "shop")], (("town", "home"),), [("town", "home")] * 2,
                    ["home"], [["town", "home"]], [("quarter", "in"), ("town", "home")]):
            self.assertIs(flows.is_cut(*NET, cut), False)
            for call in (flows.cut_width, flows.streets_of_cut):
                with self.assertRaises(InvalidCut) as caught:
                    call(*NET, cut)
                self.assertIs(caught.exception.value, cut)


class Numbers(unittest.TestCase):
    def test_amounts_beyond_the_most_are_refused(self):
        self.assertEqual(flows.flow_of(*NET, 2), numbers(2, 2, 1, 1))
        self.assertEqual(flows.flow_of(*NET, 0), numbers(0, 0, 0, 0))
        for amount in (3, -1, True, None, "1", [1]):
            with self.assertRaises(InvalidCount) as caught:
                flows.flow_of(*NET, amount)
            self.assertIs(caught.exception.value, amount)

    def test_no_more_than_two_streets_are_shut_at_once(self):
        for many in (3, -1, False, None, "1"):
            for call in (flows.worst_shut, lambda *net: flows.is_worst_shut(*net, [])):
                with self.assertRaises(InvalidCount) as caught:
                    call(*NET, many)
                self.assertIs(caught.exception.value, many)
        self.assertEqual(flows.worst_shut(*NET, 2), ["left", "right"])

    def test_names_to_shut(self):
        self.assertEqual(flows.most_shut(*NET, []), 2)
        self.assertEqual(flows.most_shut(*NET, ["left"]), 1)
        self.assertEqual(flows.most_shut(*NET, ["left", "right"]), 0)
        for names in (["right", "left"], ["left", "left"], ("left",), ["go"], ["none"], "left", [("quarter", "left")]):
            with self.assertRaises(InvalidLot) as caught:
                flows.most_shut(*NET, names)
            self.assertIs(caught.exception.value, names)

    def test_worst_streets_are_ascending_lists_of_at_most_so_many(self):
        self.assertIs(flows.is_worst_shut(*NET, 1, ["left"]), True)
        self.assertIs(flows.is_worst_shut(*NET, 1, ["left", "right"]), False)
        self.assertIs(flows.is_worst_shut(*NET, 2, ["right", "left"]), False)
        self.assertIs(flows.is_worst_shut(*NET, 2, ("left", "right")), False)
        self.assertIs(flows.is_worst_shut(*NET, 0, []), True)
        one = (ONE, HOME, "shop", "home")
        self.assertIs(flows.is_worst_shut(*one, 2, ["main"]), True)
        self.assertIs(flows.is_worst_shut(*one, 2, []), True)

    def test_streets_that_can_be_asked_of(self):
        self.assertEqual((flows.least_on(*NET, GO), flows.greatest_on(*NET, GO)), (2, 2))
        for street in ("go", ("town", "left"), ["town", "go"], ("town", "go", 1), None):
            for call in (flows.least_on, flows.greatest_on):
                with self.assertRaises(InvalidName) as caught:
                    call(*NET, street)
                self.assertIs(caught.exception.value, street)

    def test_a_ring_beside_the_way_carries_what_it_likes(self):
        net = (BACK, Town([]), "a", "b")
        self.assertEqual([flows.least_on(*net, ("quarter", name)) for name in ("back", "loop", "to")], [0, 0, 3])
        self.assertEqual([flows.greatest_on(*net, ("quarter", name)) for name in ("back", "loop", "to")], [0, 2, 3])

    def test_the_start_is_no_goal(self):
        with self.assertRaises(InvalidPlace):
            flows.most(TWO, HOME, "home", "home")


class Partings(unittest.TestCase):
    def parting(self, flow, value):
        return flows.is_parting(*NET, flow, value)

    def test_rows(self):
        flow = numbers(2, 2, 1, 1)
        both = [(1, [GO, LEFT, COME]), (1, [GO, RIGHT, COME])]
        self.assertIs(self.parting(flow, both), True)
        self.assertIs(self.parting(flow, both[::-1]), True)
        self.assertIs(self.parting(flow, both[:1]), False)
        self.assertIs(self.parting(flow, both + both[:1]), False)
        self.assertIs(self.parting(flow, tuple(both)), False)
        self.assertIs(self.parting(flow, [list(part) for part in both]), False)
        self.assertIs(self.parting(flow, [(1, tuple(row)) for _, row in both]), False)
        self.assertIs(self.parting(flow, [(True, row) for _, row in both]), False)
        self.assertIs(self.parting(flow, both + [(0, [GO, LEFT, COME])]), False)
        self.assertIs(self.parting(flow, both + [(1, [])]), False)
        self.assertIs(self.parting(flow, both + [None]), False)
        self.assertIs(self.parting(flow, [(1, [LEFT, COME, GO]), both[1]]), False)
        self.assertIs(self.parting(flow, [(1, [GO, LEFT]), (1, [COME]), both[1]]), False)
        self.assertIs(self.parting(flow, [(1, [GO, LEFT, ("town", "none")])]), False)

    def test_more_tuples_than_streets(self):
        wide = Quarter([("main", "in", "out", 9, 1)], ["in", "out"])
        net = (wide, Town([]), "in", "out")
        row = [("quarter", "main")]
        self.assertEqual(flows.parting_of(*net, {row[0]: 9}), [(9, row)])
        self.assertIs(flows.is_parting(*net, {row[0]: 9}, [(1, row)] * 9), True)
        self.assertIs(flows.is_parting(*net, {row[0]: 9}, [(1, row)] * 8), False)
        self.assertIs(flows.is_parting(*net, {row[0]: 9}, [(10, row), (-1, row)]), False)

    def test_rings(self):
        net = (BACK, Town([]), "a", "b")
        to, back, loop, pool = [("quarter", name) for name in ("to", "back", "loop", "pool")]
        flow = {to: 3, back: 2, loop: 1, pool: 1}
        told = flows.parting_of(*net, flow)
        self.assertIs(flows.is_parting(*net, flow, told), True)
        self.assertEqual(sum(number for number, names in told if names == [to]), 1)
        self.assertIs(flows.is_parting(*net, flow, [(1, [to]), (2, [to, back]), (1, [pool, loop])]), True)
        # Neither a row nor a ring touches a place twice on its way.
        self.assertIs(flows.is_parting(*net, flow, [(1, [to]), (1, [to, back]), (1, [to, back, loop, pool])]), False)
        self.assertIs(flows.is_parting(*net, flow, [(1, [loop, pool, to]), (2, [to, back])]), False)
        self.assertIs(flows.is_parting(*net, flow, [(1, [to, back, to]), (1, [to, back]), (1, [loop, pool])]), False)

    def test_no_row_leads_from_the_goal_to_the_start(self):
        net = (BACK, Town([]), "a", "b")
        to, back, loop, pool = [("quarter", name) for name in ("to", "back", "loop", "pool")]
        flow = {to: 3, back: 2, loop: 0, pool: 0}
        self.assertIs(flows.is_parting(*net, flow, [(3, [to]), (2, [back])]), False)
        self.assertIs(flows.is_parting(*net, flow, [(1, [to]), (2, [back, to])]), True)


class Papers(unittest.TestCase):
    def test_what_is_no_paper(self):
        flow, cut = numbers(2, 2, 1, 1), [("gate", "in"), ("town", "home")]
        self.assertIs(flows.is_paper(*NET, (flow, cut)), True)
        self.assertIs(flows.is_paper(*NET, [flow, cut]), False)
        self.assertIs(flows.is_paper(*NET, (cut, flow)), False)
        self.assertIs(flows.is_paper(*NET, (flow, cut, cut)), False)
        self.assertIs(flows.is_paper(*NET, (flow, cut[::-1])), False)
        self.assertIs(flows.is_paper(*NET, (flow, [("town", "home")])), False)
        self.assertIs(flows.is_paper(*NET, (numbers(1, 1, 1, 0), cut)), False)
        self.assertIs(flows.is_paper(*NET, (None, None)), False)
        self.assertIs(flows.is_paper(*NET, (None, cut)), False)
        self.assertIs(flows.is_paper(*NET, ({}, cut)), False)
        self.assertIs(flows.is_paper(*NET, (numbers(0, 2, 0, 0), cut)), False)
        self.assertIs(flows.is_paper(*NET, (flow, None)), False)


if __name__ == "__main__":
    unittest.main()
