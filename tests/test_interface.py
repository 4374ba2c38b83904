"""[1]: names, arguments and modules of the interface."""

import importlib
import inspect
import unittest

from tests.calls import CALLS

INTERFACE = {
    "gatequarters.quarters": [
        "is_word(value)", "is_street(value)", "Quarter(streets, gates)", "Town(streets)", "crossings_of(quarter)",
        "street_of(quarter, name)", "places_of(town)", "asked_of(quarter, town)", "changed(quarter, change)",
        "changed_by(quarter, changes)", "told_changes(elder, newer)", "are_changes(elder, newer, value)",
        "mirrored(quarter)", "idle_names(quarter)", "trimmed(quarter)", "live_row(quarter, name)",
        "is_live_row(quarter, name, value)",
    ],
    "gatequarters.ways": [
        "net_streets(quarter, town)", "net_places(quarter, town)", "is_way(quarter, town, start, goal, value)",
        "way_length(quarter, town, start, goal)", "shortest_way(quarter, town, start, goal)",
        "is_shortest_way(quarter, town, start, goal, value)", "heights(quarter, town, start, goal)",
        "are_heights(quarter, town, start, goal, value)", "way_width(quarter, town, start, goal)",
        "widest_way(quarter, town, start, goal)", "is_widest_way(quarter, town, start, goal, value)",
        "narrow_lot(quarter, town, start, goal)", "is_narrow_lot(quarter, town, start, goal, value)",
        "used_streets(quarter, town, start, goal)", "needed_streets(quarter, town, start, goal)",
        "wide_length(quarter, town, start, goal, width)", "trades(quarter, town, start, goal)",
    ],
    "gatequarters.flows": [
        "is_flow(quarter, town, start, goal, value)", "amount_of(quarter, town, start, goal, flow)",
        "is_cut(quarter, town, start, goal, value)", "streets_of_cut(quarter, town, start, goal, cut)",
        "cut_width(quarter, town, start, goal, cut)", "most(quarter, town, start, goal)",
        "top_flow(quarter, town, start, goal)", "least_cut(quarter, town, start, goal)",
        "is_top_flow(quarter, town, start, goal, value)", "is_least_cut(quarter, town, start, goal, value)",
        "paper_of(quarter, town, start, goal)", "is_paper(quarter, town, start, goal, value)",
        "near_cut(quarter, town, start, goal)", "far_cut(quarter, town, start, goal)",
        "narrow_streets(quarter, town, start, goal)", "helping_streets(quarter, town, start, goal)",
        "flow_of(quarter, town, start, goal, amount)", "parting_of(quarter, town, start, goal, flow)",
        "is_parting(quarter, town, start, goal, flow, value)", "least_on(quarter, town, start, goal, street)",
        "greatest_on(quarter, town, start, goal, street)", "most_shut(quarter, town, start, goal, names)",
        "worst_shut(quarter, town, start, goal, many)", "is_worst_shut(quarter, town, start, goal, many, value)",
    ],
    "gatequarters.tables": [
        "answer_by(gates, measure, table, town, start, goal)", "entry_paper(quarter, measure, key)",
        "greatest_side(quarter, lot)", "is_entry_paper(quarter, measure, key, value)",
        "is_lot_flow(quarter, lot, value)", "is_narrowest_side(quarter, lot, value)",
        "is_table(gates, measure, value)", "least_side(quarter, lot)", "lot_flow(quarter, lot)", "lots_of(quarter)",
        "side_width(quarter, side)", "table_of(quarter, measure)",
    ],
    "gatequarters.alike": [
        "alike_measures(one, other)", "are_even(gates, measure, one, other, start, goal)",
        "asked(quarter, measure, town, start, goal)", "gates_needed(one, other, measure)",
        "hearing_quarter(gates, measure, one, other, start, goal)", "is_alike(one, other, measure)",
        "is_hearing_quarter(gates, measure, one, other, start, goal, value)", "is_notice(one, other, measure, value)",
        "notice_at(one, other, measure, key)", "notice_of(one, other, measure)", "notice_size(one, other, measure)",
        "unlike_keys(one, other, measure)",
    ],
    "gatequarters.orders": [
        "never_worse(elder, newer, measure)", "worse_entries(elder, newer, measure)",
        "standing(elder, newer, measure)", "greatest_loss(elder, newer, measure)",
        "worse_town(elder, newer, measure)", "is_worse_town(elder, newer, measure, value)",
        "mending_lots(elder, newer, measure)", "is_mending(elder, newer, measure, lot)",
        "least_width(elder, newer, name, measure)",
    ],
    "gatequarters.rooms": [
        "entries_with(quarter, name, width, measure)", "noticed_at(quarter, name, width, measure)",
        "width_room(quarter, name, measure)", "width_bars(quarter, name, measure)",
        "are_width_bars(quarter, name, measure, value)", "length_room(quarter, name)", "length_bars(quarter, name)",
        "are_length_bars(quarter, name, value)", "trade_room(quarter, name, width, other, measure)",
        "trade_bars(quarter, name, width, other, measure)",
        "are_trade_bars(quarter, name, width, other, measure, value)",
    ],
    "gatequarters.spares": [
        "with_shut(quarter, names)", "with_widened(quarter, names)", "is_spare(quarter, measure, value)",
        "spare_lots(quarter, measure)", "unspared_streets(quarter, measure)", "harmful_lots(quarter, measure)",
        "is_wide(quarter, measure, value)", "wide_lots(quarter, measure)", "lot_quarter(quarter, changes, lot)",
        "noticed_lots(quarter, changes, measure)", "unnoticed_lots(quarter, changes, measure)",
        "sure_streets(quarter)", "dead_streets(quarter)",
    ],
    "gatequarters.failing": [
        "most_left(quarter, lot, many)", "worst_shutting(quarter, lot, many)",
        "is_worst_shutting(quarter, lot, many, value)", "failing_paper(quarter, lot, many)",
        "is_failing_paper(quarter, lot, many, value)", "lowering_streets(quarter, lot)",
        "cutting_streets(quarter, lot)", "losses(quarter, many)", "is_safe(quarter, many)",
        "loss_by_shutting(quarter, many)", "losing_town(quarter, many)", "is_losing_town(quarter, many, value)",
        "doubled(quarter, names)", "fewest_doubled(quarter)", "is_fewest_doubled(quarter, value)",
    ],
    "gatequarters.gluing": [
        "glued(quarters, plan)", "glued_table(measure, tables, plan)",
        "alike_inside(quarters, plan, at, newer, measure)", "entry_room(measure, tables, plan, at, key)",
        "pieces_of(quarter, dealing)", "with_town(quarter, town, places)",
    ],
    "gatequarters.least": [
        "are_parts(gates, table, value)", "barring_rows(gates, table)", "can_be(gates, table)",
        "crossings_wanted(gates, table)", "is_least_alike(quarter, value)", "is_least_parting(quarter, value)",
        "is_lone_pair(gates, lot, value)", "is_made_quarter(gates, table, value)", "least_alike(quarter)",
        "least_parting(quarter)", "lone_pair(gates, lot)", "made_quarter(gates, table)", "merged(quarter, parting)",
        "parts_of(gates, table)", "side_parting(quarter)",
    ],
    "gatequarters.prices": [
        "cost_of(quarter, supply)", "cheapest(quarter, supply)", "is_cheapest(quarter, supply, value)",
        "price_heights(quarter, supply)", "are_price_heights(quarter, supply, value)", "barring_lot(quarter, supply)",
        "is_barring_lot(quarter, supply, value)", "price_of(quarter, town, start, goal, number)",
        "price_list(quarter, town, start, goal)", "costs(quarter)", "are_price_alike(elder, newer)",
        "unlike_supply(elder, newer)", "is_unlike_supply(elder, newer, value)", "price_town(quarter, supply)",
        "is_never_dearer(elder, newer)", "dearer_supply(elder, newer)", "is_dearer_supply(elder, newer, value)",
    ],
    "gatequarters.works": [
        "stage_of(quarter, works, lot)", "during(quarter, works, lot, now)",
        "safe_order(quarter, works, floor, measure)", "is_safe_order(quarter, works, floor, measure, value)",
        "lots_reached(quarter, works, floor, measure)", "is_bar(quarter, works, floor, measure, value)",
        "fewest_nights(quarter, works, floor, measure, most_works)",
        "night_lots(quarter, works, floor, measure, most_works)",
        "are_night_lots(quarter, works, floor, measure, most_works, value)",
        "best_kept(quarter, works, measure, key)", "best_order(quarter, works, measure, key)",
        "is_best_order(quarter, works, measure, key, value)", "bad_moment(quarter, works, floor, measure, order)",
        "is_bad_moment(quarter, works, floor, measure, order, value)",
    ],
    "gatequarters.city": [
        "City(gates)", "replayed(city, log)", "told_apart(one, other, measure)",
    ],
    "gatequarters.scripts": [
        "play(city, script)", "script_text(script)", "read_script(text)", "end_of(gates, script)",
        "shortened(gates, script)",
    ],
    "gatequarters.papers": [
        "quarter_text(quarter)", "read_quarter(text)", "town_text(town)", "read_town(text)", "change_text(change)",
        "read_change(text)", "table_text(table)", "read_table(text)", "flow_text(flow)", "read_flow(text)",
    ],
}
METHODS = {
    ("gatequarters.quarters", "Quarter"): ["streets()", "gates()", "__eq__(other)"],
    ("gatequarters.quarters", "Town"): ["streets()", "__eq__(other)"],
    ("gatequarters.city", "City"): [
        "gates()", "spots()", "quarter(spot)", "whole()", "promise(measure, kind)", "promises()", "release(at)",
        "broken()", "witness(at)", "is_witness(at, value)", "put(quarter)", "take(spot)", "exchange(spot, quarter)",
        "change(spot, changes)", "force(spot, quarter)", "barring(spot, quarter)", "kept_widths(spot, name)",
        "kept_lengths(spot, name)", "spare_streets(spot)", "undo()", "redo()", "trial()", "attempt(action)", "copy()",
        "log()",
    ],
}


class Interface(unittest.TestCase):
    def things(self):
        """Yield each function and class of the interface with its module, name and arguments."""
        for module, rows in INTERFACE.items():
            for row in rows:
                name, arguments = row[:-1].split("(")
                yield getattr(importlib.import_module(module), name), module, name, arguments.split(", ")

    def test_each_name_takes_the_arguments_of_the_interface(self):
        for thing, _, name, arguments in self.things():
            parameters = inspect.signature(thing).parameters
            self.assertEqual(list(parameters), arguments, name)
            self.assertTrue(all(part.default is part.empty for part in parameters.values()), name)

    def test_each_name_is_defined_in_its_own_file(self):
        for thing, module, name, _ in self.things():
            self.assertEqual((thing.__module__, thing.__name__), (module, name))

    def test_each_function_is_called_by_the_tests_of_arguments(self):
        called = [function for function, _ in CALLS]
        for thing, _, name, _ in self.things():
            if name not in ("is_word", "is_street"):
                self.assertIn(thing, called, name)

    def test_each_method_stands_in_its_class(self):
        for (module, name), methods in METHODS.items():
            for row in methods:
                method, arguments = row[:-1].split("(")
                told = vars(getattr(importlib.import_module(module), name))
                self.assertIn(method, told)
                parameters = list(inspect.signature(told[method]).parameters)[1:]
                self.assertEqual(parameters, arguments.split(", ") if arguments else [], row)


if __name__ == "__main__":
    unittest.main()
