"""[2] over the whole program: questions of all modules, asked again, in other orders and by turns."""

import copy
import random
import unittest

from gatequarters import alike, city, failing, flows, gluing, least, orders, papers, prices, quarters, rooms, scripts
from gatequarters import spares, tables, ways, works
from gatequarters.errors import GateError
from gatequarters.quarters import Quarter, Town
from tests.calls import CALLS
from tests.support import MEASURES, plain, small_streets
from tests.test_arguments import spoil

MODULES = [alike, city, failing, flows, gluing, least, orders, papers, prices, quarters, rooms, scripts, spares, tables,
           ways, works]


def answer(function, arguments):
    """Return what a function tells, or the error that it raises, as text; what it told is spoilt then."""
    try:
        told = function(**arguments)
    except GateError as error:
        return type(error).__name__
    text = plain(told)
    spoil(told)
    return text


def net(chance):
    """Return a random quarter, another one with the same gates, and a town, all of small numbers."""
    gates = chance.choice([["a", "b"], ["a", "b", "c"]])
    one, other = [Quarter(small_streets(chance, gates + ["x"], chance.randint(1, 5), [0, 1, 1, 2], [0, 1, 2]), gates)
                  for _ in range(2)]
    town = Town(small_streets(chance, gates + ["s", "t"], chance.randint(1, 4), [0, 1, 2], [0, 1, 3]))
    return one, other, town


def questions(one, other, town):
    """Return the arguments of many questions of two quarters and a town, with their functions."""
    gates = one.gates()
    name = one.streets()[0][0]
    place = {"quarter": one, "town": town, "start": gates[0], "goal": gates[1]}
    plan = ([{gate: gate for gate in gates}, {gate: gate for gate in gates}], gates)
    pair = {"elder": one, "newer": other}
    rows = other.streets()[:3]
    supply = (1, -1) + (0,) * (len(gates) - 2)
    asked = [(function, place) for function in (
        ways.shortest_way, ways.heights, ways.widest_way, ways.narrow_lot, ways.used_streets, ways.trades, flows.most,
        flows.top_flow, flows.paper_of, flows.near_cut, flows.far_cut, flows.helping_streets, prices.price_list)]
    for measure in MEASURES:
        asked += [
            (tables.table_of, {"quarter": one, "measure": measure}),
            (alike.notice_of, {"one": one, "other": other, "measure": measure}),
            (alike.gates_needed, {"one": one, "other": other, "measure": measure}),
            (orders.standing, {**pair, "measure": measure}), (orders.worse_town, {**pair, "measure": measure}),
            (rooms.width_room, {"quarter": one, "name": name, "measure": measure}),
            (spares.spare_lots, {"quarter": one, "measure": measure}),
            (gluing.alike_inside, {"quarters": [one, one], "plan": plan, "at": 1, "newer": other, "measure": measure}),
            (works.safe_order, {"quarter": one, "works": rows, "floor": other, "measure": measure}),
            (works.lots_reached, {"quarter": one, "works": rows, "floor": Quarter([], gates), "measure": measure}),
            (works.night_lots, {"quarter": one, "works": rows, "floor": Quarter([], gates), "measure": measure,
                                "most_works": 2}),
        ]
    script = [("put", one), ("promise", "most", "alike"), ("put", other), ("exchange", 0, other), ("force", 0, other),
              ("try", [("undo",), ("broken",)]), ("broken",), ("spare", 0), ("barring", 0, one)]
    return asked + [
        (quarters.told_changes, pair), (quarters.trimmed, {"quarter": one}),
        (failing.losses, {"quarter": one, "many": 1}), (failing.failing_paper, {"quarter": one, "lot": ("a",), "many": 1}),
        (gluing.glued, {"quarters": [one, other], "plan": plan}),
        (gluing.pieces_of, {"quarter": one, "dealing": [[street[0]] for street in one.streets()]}),
        (gluing.with_town, {"quarter": one, "town": town, "places": gates}),
        (least.least_parting, {"quarter": one}), (least.side_parting, {"quarter": one}),
        (least.least_alike, {"quarter": one}), (least.lone_pair, {"gates": gates, "lot": ("b",)}),
        (prices.costs, {"quarter": one}), (prices.unlike_supply, pair), (prices.dearer_supply, pair),
        (prices.cheapest, {"quarter": one, "supply": supply}), (prices.price_heights, {"quarter": one, "supply": supply}),
        (prices.price_town, {"quarter": one, "supply": supply}),
        (papers.quarter_text, {"quarter": one}), (papers.town_text, {"town": town}),
        (scripts.end_of, {"gates": gates, "script": script}), (scripts.script_text, {"script": script}),
        (scripts.shortened, {"gates": gates, "script": script}),
    ]


class Program(unittest.TestCase):
    def ask_again(self, asked, chance, turns):
        """Ask all again, in other orders, of the same and of equal arguments, after all told was changed."""
        told = [answer(function, arguments) for function, arguments in asked]
        for turn in range(turns):
            order = list(range(len(asked)))
            chance.shuffle(order)
            for at in order:
                function, arguments = asked[at]
                passed = copy.deepcopy(arguments) if turn % 2 else arguments
                self.assertEqual(answer(function, passed), told[at], function.__name__)
                if turn % 2:
                    spoil(list(passed.values()))

    def test_each_function_again(self):
        self.ask_again(CALLS, random.Random(1), 4)

    def test_several_quarters_and_towns_by_turns(self):
        chance = random.Random(2)
        asked = []
        for _ in range(8):
            asked += questions(*net(chance))
        self.ask_again(asked, chance, 3)

    def test_nearly_all_modules_are_asked(self):
        names = {function.__module__ for function, _ in CALLS}
        self.assertEqual(names, {module.__name__ for module in MODULES})

    def test_refused_calls_between_change_nothing(self):
        chance = random.Random(3)
        one, other, town = net(chance)
        asked = questions(one, other, town)
        told = [answer(function, arguments) for function, arguments in asked]
        for function, arguments in asked:
            for name in arguments:
                self.assertRegex(answer(function, {**arguments, name: {None: [True]}}), "Invalid|Unlike")
        self.assertEqual([answer(function, arguments) for function, arguments in asked], told)


if __name__ == "__main__":
    unittest.main()
