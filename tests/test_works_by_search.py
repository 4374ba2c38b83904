"""[87] to [92]: works against all orders, all nights and all lots of small ones."""

import itertools
import random
import unittest

from gatequarters import works
from gatequarters.orders import is_worse_town
from tests.site import Moments, drawn_site, is_worse, while_done
from tests.support import MEASURES, asked_by_search, sublists_of


def sites(seed, many, most_works):
    """Yield random works with a floor and a measure, and their moments."""
    chance = random.Random(seed)
    for _ in range(many):
        quarter, rows, floor = drawn_site(chance, most_works)
        measure = chance.choice(MEASURES)
        yield quarter, rows, floor, measure, Moments(quarter, rows, floor, measure), chance


def orders_of(rows):
    return [list(order) for order in itertools.permutations(range(len(rows)))]


def nights_of(many, most):
    """Yield every list of lots of so many works, each once, at most so many in each."""
    def parted(left):
        if not left:
            yield []
        for size in range(1, min(most, len(left)) + 1):
            for night in itertools.combinations(left, size):
                for others in parted([work for work in left if work not in night]):
                    yield [list(night)] + others
    yield from parted(list(range(many)))


class Stages(unittest.TestCase):
    def test_stages_and_quarters_during_works(self):
        for quarter, rows, _, _, _, _ in sites(1, 80, 4):
            for lot in sublists_of(list(range(len(rows)))):
                self.assertEqual(works.stage_of(quarter, rows, lot), while_done(quarter, rows, lot, []))
                left = [at for at in range(len(rows)) if at not in lot]
                for now in sublists_of(left):
                    self.assertEqual(works.during(quarter, rows, lot, now), while_done(quarter, rows, lot, now))


class Orders(unittest.TestCase):
    def test_safe_orders_among_all_orders(self):
        seen = []
        for quarter, rows, floor, measure, moments, _ in sites(2, 500, 3):
            safe = [order for order in orders_of(rows) if moments.is_safe(order)]
            told = works.safe_order(quarter, rows, floor, measure)
            if safe:
                self.assertIn(told, safe)
            else:
                self.assertIsNone(told)
            for order in orders_of(rows):
                self.assertIs(works.is_safe_order(quarter, rows, floor, measure, order), order in safe)
            seen.append((len(safe), len(orders_of(rows))))
        for pair in ((0, 6), (6, 6), (0, 2), (2, 2), (1, 2)):
            self.assertGreater(seen.count(pair), 2)
        self.assertGreater(len([pair for pair in seen if 0 < pair[0] < pair[1]]), 8)

    def test_lots_that_are_reached_and_bars(self):
        seen = []
        for quarter, rows, floor, measure, moments, chance in sites(3, 300, 3):
            every = list(range(len(rows)))
            reached = set()
            for order in orders_of(rows):
                for many in range(len(rows) + 1):
                    if moments.is_safe(order[:many]):
                        reached.add(tuple(sorted(order[:many])))
            lots = [list(lot) for lot in sorted(reached, key=lambda lot: (len(lot), lot))]
            self.assertEqual(works.lots_reached(quarter, rows, floor, measure), lots)
            safe = works.safe_order(quarter, rows, floor, measure) is not None
            self.assertEqual(every in lots, safe)
            # The lots that are reached are a bar if there is no safe order.
            self.assertIs(works.is_bar(quarter, rows, floor, measure, lots), not safe)
            self.assertIs(works.is_bar(quarter, rows, floor, measure, []), not moments.holds([]))
            for _ in range(10):
                value = [lot for lot in sublists_of(every) if lot in lots or chance.random() < 0.4]
                chance.shuffle(value)
                value = value[:len(value) - chance.choice([0, 0, 1])]
                right = self.is_bar(value, every, moments)
                self.assertIs(works.is_bar(quarter, rows, floor, measure, value), right)
                self.assertFalse(right and safe)
                seen.append(right)
        self.assertGreater(seen.count(True), 30)
        self.assertGreater(seen.count(False), 30)

    def is_bar(self, value, every, moments):
        if not value:
            return not moments.holds([])
        if [] not in value or every in value:
            return False
        return all(sorted(lot + [work]) in value for lot in value for work in every if work not in lot
                   and moments.holds(lot + [work]) and moments.holds(lot, [work]))


class Nights(unittest.TestCase):
    def test_fewest_nights_among_all_lists(self):
        seen = []
        for quarter, rows, floor, measure, moments, chance in sites(4, 400, 4):
            most = chance.choice([1, 2, 3, 4, 60])
            every = list(nights_of(len(rows), most))
            safe = [nights for nights in every if moments.are_safe_nights(nights)]
            fewest = min([len(nights) for nights in safe], default=None)
            self.assertEqual(works.fewest_nights(quarter, rows, floor, measure, most), fewest)
            told = works.night_lots(quarter, rows, floor, measure, most)
            if fewest is None:
                self.assertIsNone(told)
            else:
                self.assertIn(told, safe)
                self.assertEqual(len(told), fewest)
            for nights in chance.sample(every, min(12, len(every))):
                right = len(nights) == fewest and nights in safe
                self.assertIs(works.are_night_lots(quarter, rows, floor, measure, most, nights), right)
            seen.append((len(rows), fewest))
        self.assertGreater(len([pair for pair in seen if pair[1] is None]), 20)
        self.assertGreater(len([pair for pair in seen if pair[1] is not None and pair[1] > 1]), 8)
        self.assertGreater(len([pair for pair in seen if pair[1] is not None and 0 < pair[1] < pair[0]]), 8)

    def test_with_one_work_a_night_orders_are_nights(self):
        for quarter, rows, floor, measure, _, _ in sites(5, 60, 4):
            order = works.safe_order(quarter, rows, floor, measure)
            nights = works.fewest_nights(quarter, rows, floor, measure, 1)
            self.assertEqual(nights, None if order is None else len(rows))


class Kept(unittest.TestCase):
    def test_best_values_and_orders_among_all_orders(self):
        seen = []
        for quarter, rows, _, measure, moments, _ in sites(6, 500, 3):
            for key in list(moments.floor)[:3]:
                values = {tuple(order): moments.worst(order, key) for order in orders_of(rows)}
                best = next(iter(values.values()))
                for value in values.values():
                    if is_worse(measure, best, value):
                        best = value
                self.assertEqual(works.best_kept(quarter, rows, measure, key), best)
                order = works.best_order(quarter, rows, measure, key)
                self.assertEqual(values[tuple(order)], best)
                for order, value in values.items():
                    self.assertIs(works.is_best_order(quarter, rows, measure, key, list(order)), value == best)
                seen.append(len(set(values.values())))
        self.assertGreater(len([many for many in seen if many > 1]), 10)


class Moment(unittest.TestCase):
    def test_bad_moments_of_all_orders(self):
        seen = []
        for quarter, rows, floor, measure, moments, chance in sites(7, 500, 3):
            for order in orders_of(rows):
                bad = [(len(done), now[0] if now else None) for done, now in moments.moments(order)
                       if not moments.holds(done, now)]
                told = works.bad_moment(quarter, rows, floor, measure, order)
                seen.append(bad[0] if bad else None)
                if not bad:
                    self.assertIsNone(told)
                    continue
                self.assertEqual(told[:2], bad[0])
                done, now = order[:told[0]], [] if told[1] is None else [told[1]]
                after = while_done(quarter, rows, sorted(done), now)
                answers = [asked_by_search(one, measure, *told[2:]) for one in (floor, after)]
                self.assertTrue(is_worse(measure, answers[1], answers[0]))
                self.assertIs(works.is_bad_moment(quarter, rows, floor, measure, order, told), True)
                for moment in bad[1:] + [(told[0], None), (told[0], 0), (told[0] + 1, told[1])]:
                    right = moment == bad[0]
                    self.assertIs(works.is_bad_moment(quarter, rows, floor, measure, order, moment + told[2:]), right)
                for start, goal in itertools.permutations(quarter.gates(), 2):
                    right = is_worse_town(floor, after, measure, (told[2], start, goal))
                    self.assertIs(works.is_bad_moment(quarter, rows, floor, measure, order,
                                                      told[:3] + (start, goal)), right)
        self.assertGreater(seen.count(None), 30)
        self.assertGreater(seen.count((0, None)), 30)
        self.assertGreater(len([pair for pair in seen if pair and pair[1] is not None]), 30)
        self.assertGreater(len([pair for pair in seen if pair and pair[0] > 0]), 30)


if __name__ == "__main__":
    unittest.main()
