"""[23] to [30]: flows and cuts against all flows, all cuts and all shuttings of small nets."""

import itertools
import random
import unittest

from gatequarters import flows
from gatequarters.quarters import Quarter, Town
from tests.support import all_places, balance, cuts_by_search, flows_by_search, great_net, loads
from tests.support import most_by_search, narrow_net, net_arcs, place_of, plain, sublists_of, with_widths


def nets(seed, many):
    """Yield random small nets with two places."""
    chance = random.Random(seed)
    for _ in range(many):
        yield narrow_net(chance)


def widened(owner, name, more):
    """Return a quarter or a town with one street wider or narrower."""
    streets = [(word, start, end, width + more if word == name else width, length)
               for word, start, end, width, length in owner.streets()]
    return Quarter(streets, owner.gates()) if isinstance(owner, Quarter) else Town(streets)


def changed_most(net, street, more):
    """Return the most of a net in which one street is wider or narrower."""
    quarter, town, start, goal = net
    if street[0] == "quarter":
        return most_by_search(widened(quarter, street[1], more), town, start, goal)
    return most_by_search(quarter, widened(town, street[1], more), start, goal)


def is_part_by_sight(arcs, origin, target, number, names):
    """Return whether a number and a row or a ring are a part, place by place."""
    touched = [arcs[names[0]][0]]
    for name in names:
        if arcs[name][0] != touched[-1]:
            return False
        touched.append(arcs[name][1])
    if touched[0] == touched[-1]:
        return number > 0 and len(set(touched)) == len(touched) - 1
    return number > 0 and touched[0] == origin and touched[-1] == target and len(set(touched)) == len(touched)


class Flows(unittest.TestCase):
    def test_flows_are_just_what_the_sums_say(self):
        for net in nets(1, 40):
            found = [plain(numbers) for _, numbers in flows_by_search(*net)]
            for numbers in loads(net_arcs(net[0], net[1])):
                self.assertIs(flows.is_flow(*net, numbers), plain(numbers) in found, (net, numbers))

    def test_amounts(self):
        for net in nets(2, 20):
            for amount, numbers in flows_by_search(*net):
                self.assertEqual(flows.amount_of(*net, numbers), amount)

    def test_nothing_beyond_a_width_or_below_0_flows(self):
        for net in nets(3, 20):
            for _, numbers in flows_by_search(*net)[:20]:
                for name, arc in net_arcs(net[0], net[1]).items():
                    for number in (-1, arc[2] + 1, None, True, False, "1", [1]):
                        self.assertIs(flows.is_flow(*net, {**numbers, name: number}), False)
                    fewer = {word: numbers[word] for word in numbers if word != name}
                    self.assertIs(flows.is_flow(*net, fewer), False)
                    self.assertIs(flows.is_flow(*net, {**fewer, name[1]: numbers[name]}), False)
                self.assertIs(flows.is_flow(*net, {**numbers, ("quarter", "none"): 0}), False)
                turned = {name: numbers[name] for name in list(numbers)[::-1]}
                self.assertIs(flows.is_flow(*net, turned), True)

    def test_top_flows_and_papers(self):
        for net in nets(4, 60):
            found = flows_by_search(*net)
            top = max(amount for amount, _ in found)
            self.assertEqual(flows.most(*net), top)
            told = flows.top_flow(*net)
            self.assertEqual(list(told), sorted(net_arcs(net[0], net[1])))
            self.assertIn((top, told), found)
            for amount, numbers in found:
                self.assertIs(flows.is_top_flow(*net, numbers), amount == top)
            flow, cut = flows.paper_of(*net)
            self.assertIn((top, flow), found)
            self.assertIn((top, cut), cuts_by_search(*net))

    def test_papers_are_just_those_that_hold_each_other(self):
        for net in nets(5, 15):
            for amount, numbers in flows_by_search(*net):
                for width, cut in cuts_by_search(*net):
                    self.assertIs(flows.is_paper(*net, (numbers, cut)), amount == width)

    def test_flows_of_each_amount(self):
        for net in nets(6, 60):
            found = flows_by_search(*net)
            for amount in range(flows.most(*net) + 1):
                told = flows.flow_of(*net, amount)
                self.assertIn((amount, told), found)
                self.assertEqual(list(told), sorted(told))

    def test_least_and_greatest_on_a_street(self):
        for net in nets(7, 60):
            found = flows_by_search(*net)
            top = max(amount for amount, _ in found)
            for name in net_arcs(net[0], net[1]):
                seen = sorted({numbers[name] for amount, numbers in found if amount == top})
                least, greatest = flows.least_on(*net, name), flows.greatest_on(*net, name)
                self.assertEqual(list(range(least, greatest + 1)), seen, (net, name))


class Cuts(unittest.TestCase):
    def test_cuts_are_just_the_lots_of_places_with_the_start_and_without_the_goal(self):
        for net in nets(11, 40):
            cuts = [cut for _, cut in cuts_by_search(*net)]
            for value in sublists_of(all_places(net[0], net[1])):
                self.assertIs(flows.is_cut(*net, value), value in cuts)
                self.assertIs(flows.is_cut(*net, tuple(value)), False)
                if len(value) > 1:
                    self.assertIs(flows.is_cut(*net, value[::-1]), False)
                    self.assertIs(flows.is_cut(*net, value[:1] + value), False)

    def test_widths_and_streets_of_cuts(self):
        for net in nets(12, 30):
            arcs = net_arcs(net[0], net[1])
            for width, cut in cuts_by_search(*net):
                leaving = [name for name in sorted(arcs) if arcs[name][0] in cut and arcs[name][1] not in cut]
                self.assertEqual(flows.cut_width(*net, cut), width)
                self.assertEqual(flows.streets_of_cut(*net, cut), leaving)

    def test_least_cuts(self):
        for net in nets(13, 60):
            cuts = cuts_by_search(*net)
            least = min(width for width, _ in cuts)
            self.assertEqual(flows.most(*net), least)
            self.assertIn((least, flows.least_cut(*net)), cuts)
            for width, cut in cuts:
                self.assertIs(flows.is_least_cut(*net, cut), width == least)

    def test_the_near_cut_and_the_far_cut(self):
        for net in nets(14, 100):
            cuts = cuts_by_search(*net)
            best = [cut for width, cut in cuts if width == min(cuts)[0]]
            places = all_places(net[0], net[1])
            within = [place for place in places if all(place in cut for cut in best)]
            around = [place for place in places if any(place in cut for cut in best)]
            self.assertEqual(flows.near_cut(*net), within)
            self.assertEqual(flows.far_cut(*net), around)
            self.assertIn(within, best)
            self.assertIn(around, best)

    def test_narrow_streets_leave_some_least_cut_and_lower_the_most(self):
        for net in nets(15, 100):
            arcs = net_arcs(net[0], net[1])
            cuts = cuts_by_search(*net)
            best = [cut for width, cut in cuts if width == min(cuts)[0]]
            told = flows.narrow_streets(*net)
            self.assertEqual(told, sorted(told))
            for name, (start, end, width, _) in arcs.items():
                leaves = any(start in cut and end not in cut for cut in best)
                self.assertEqual(name in told, width > 0 and leaves)
                lowers = width > 0 and changed_most(net, name, -1) < min(cuts)[0]
                self.assertEqual(name in told, lowers)

    def test_helping_streets_raise_the_most(self):
        for net in nets(16, 100):
            told = flows.helping_streets(*net)
            self.assertEqual(told, sorted(told))
            for name in net_arcs(net[0], net[1]):
                raises = changed_most(net, name, 1) > most_by_search(*net)
                self.assertEqual(name in told, raises, (net, name))


class Partings(unittest.TestCase):
    def check_parting(self, net, numbers, told):
        arcs = net_arcs(net[0], net[1])
        sums = {name: 0 for name in arcs}
        for number, names in told:
            self.assertTrue(is_part_by_sight(arcs, place_of(net[0], net[2]), place_of(net[0], net[3]), number, names))
            for name in names:
                sums[name] += number
        self.assertEqual(sums, numbers)
        self.assertLessEqual(len(told), len(arcs))
        self.assertIs(flows.is_parting(*net, numbers, told), True)

    def test_each_flow_is_parted(self):
        for net in nets(21, 40):
            for _, numbers in flows_by_search(*net):
                self.check_parting(net, numbers, flows.parting_of(*net, numbers))

    def test_the_order_of_the_keys_of_a_flow_means_nothing(self):
        for net in nets(22, 40):
            for _, numbers in flows_by_search(*net):
                other = {name: numbers[name] for name in list(numbers)[::-1]}
                self.assertEqual(plain(flows.parting_of(*net, other)), plain(flows.parting_of(*net, numbers)))

    def test_a_parting_of_one_flow_is_none_of_another_one(self):
        for net in nets(23, 10):
            found = [numbers for _, numbers in flows_by_search(*net)][:12]
            for numbers, other in itertools.product(found, found):
                told = flows.parting_of(*net, other)
                self.assertIs(flows.is_parting(*net, numbers, told), numbers == other)

    def test_rows_and_rings_are_judged_place_by_place(self):
        seen = {True: 0, False: 0}
        for net in nets(24, 200):
            arcs = net_arcs(net[0], net[1])
            ends = place_of(net[0], net[2]), place_of(net[0], net[3])
            for size in (1, 2, 3):
                for names in itertools.permutations(arcs, size):
                    numbers = {name: 1 if name in names else 0 for name in arcs}
                    if flows.is_flow(*net, numbers):
                        right = is_part_by_sight(arcs, *ends, 1, names)
                        self.assertIs(flows.is_parting(*net, numbers, [(1, list(names))]), right)
                        seen[right] += 1
        self.assertGreater(min(seen.values()), 10)


class Shut(unittest.TestCase):
    def test_the_most_with_streets_shut(self):
        for net in nets(31, 60):
            names = [street[0] for street in net[0].streets()]
            for some in sublists_of(names):
                left = most_by_search(with_widths(net[0], {name: 0 for name in some}), *net[1:])
                self.assertEqual(flows.most_shut(*net, some), left)

    def test_the_worst_streets_to_shut(self):
        for net in nets(32, 60):
            names = [street[0] for street in net[0].streets()]
            for many in (0, 1, 2):
                lots = [some for some in sublists_of(names) if len(some) <= many]
                left = [most_by_search(with_widths(net[0], {name: 0 for name in some}), *net[1:]) for some in lots]
                told = flows.worst_shut(*net, many)
                self.assertIn(told, lots)
                self.assertEqual(left[lots.index(told)], min(left))
                for some in sublists_of(names):
                    right = some in lots and left[lots.index(some)] == min(left)
                    self.assertIs(flows.is_worst_shut(*net, many, some), right)


class Great(unittest.TestCase):
    def test_nets_as_great_as_the_document_lets(self):
        chance = random.Random(41)
        for _ in range(40):
            net = great_net(chance)
            flow, cut = flows.paper_of(*net)
            arcs = net_arcs(net[0], net[1])
            width = sum(arc[2] for arc in arcs.values() if arc[0] in cut and arc[1] not in cut)
            self.assertEqual(balance(arcs, flow, place_of(net[0], net[2])), width)
            self.assertIs(flows.is_paper(*net, (flow, cut)), True)
            self.assertTrue(set(flows.near_cut(*net)) <= set(flows.far_cut(*net)))
            told = flows.parting_of(*net, flow)
            self.assertIs(flows.is_parting(*net, flow, told), True)
            worst = flows.worst_shut(*net, 2)
            names = [street[0] for street in net[0].streets()]
            left = [flows.most_shut(*net, list(some)) for some in itertools.combinations(names, 2)]
            self.assertEqual(flows.most_shut(*net, worst), min(left))
            self.assertIs(flows.is_worst_shut(*net, 2, worst), True)
            for name in arcs:
                self.assertLessEqual(flows.least_on(*net, name), flow[name])
                self.assertGreaterEqual(flows.greatest_on(*net, name), flow[name])


if __name__ == "__main__":
    unittest.main()
