"""What sending costs: supplies of a quarter's gates, carryings of them, and prices in a net."""

from gatequarters.carriage import cheap_carrying, cheap_flow, cost_of_flow, heights_of, least_costs
from gatequarters.counts import check_count, is_whole
from gatequarters.errors import InvalidSupply
from gatequarters.lots import is_lot
from gatequarters.nets import asked_net
from gatequarters.quarters import Town, check_pair, check_quarter, crossings_of
from gatequarters.streams import balances, is_load
from gatequarters.tables import table_of
from gatequarters.words import free_words, word_at


def _is_supply(quarter, value):
    """Return whether any object is a supply of a quarter."""
    if not isinstance(value, tuple) or len(value) != len(quarter.gates()):
        return False
    return all([is_whole(number) for number in value]) and sum(value) == 0


def _check_supply(quarter, value):
    """Raise InvalidQuarter or InvalidSupply unless any object is a supply of a quarter."""
    check_quarter(quarter)
    if not _is_supply(quarter, value):
        raise InvalidSupply(value)


def _numbers(quarter, supply):
    """Return the dictionary from the gates to the numbers of a supply."""
    return dict(zip(quarter.gates(), supply))


def cost_of(quarter, supply):
    """Return the least cost of a carrying of a supply, None if there is none."""
    carrying = cheapest(quarter, supply)
    return None if carrying is None else cost_of_flow(quarter.streets(), carrying)


def cheapest(quarter, supply):
    """Return a carrying of the least cost, its keys ascending, None if there is none."""
    _check_supply(quarter, supply)
    return cheap_carrying(quarter.streets(), _numbers(quarter, supply))


def is_cheapest(quarter, supply, value):
    """Return whether any object is a carrying of the least cost."""
    cost = cost_of(quarter, supply)
    streets, numbers = quarter.streets(), _numbers(quarter, supply)
    if cost is None or not is_load(streets, value):
        return False
    sums = balances(streets, value)
    if not all([sums.get(crossing, 0) == numbers.get(crossing, 0) for crossing in crossings_of(quarter)]):
        return False
    return cost_of_flow(streets, value) == cost


def price_heights(quarter, supply):
    """Return heights that hold up the least cost, their keys ascending, None if there is no carrying."""
    carrying = cheapest(quarter, supply)
    if carrying is None:
        return None
    return heights_of(quarter.streets(), carrying, crossings_of(quarter))


def _held_up(quarter, supply, heights):
    """Return what heights hold up for a supply."""
    numbers = _numbers(quarter, supply)
    saved = sum([width * min(0, length + heights[start] - heights[end])
                 for _, start, end, width, length in quarter.streets()])
    return saved - sum([numbers[gate] * heights[gate] for gate in numbers])


def are_price_heights(quarter, supply, value):
    """Return whether any object is heights that hold up the least cost."""
    cost = cost_of(quarter, supply)
    crossings = crossings_of(quarter)
    if cost is None or not isinstance(value, dict) or len(value) != len(crossings):
        return False
    if not all([crossing in value and is_whole(value[crossing]) for crossing in crossings]):
        return False
    return _held_up(quarter, supply, value) == cost


def _bars(quarter, supply, lot):
    """Return whether the gates of a lot bring in more than the quarter lets out."""
    numbers = _numbers(quarter, supply)
    return sum([numbers[gate] for gate in lot]) > table_of(quarter, "most")[lot]


def barring_lot(quarter, supply):
    """Return a lot whose gates bring in more than the quarter lets out, None if there is none."""
    _check_supply(quarter, supply)
    for lot in table_of(quarter, "most"):
        if _bars(quarter, supply, lot):
            return lot
    return None


def is_barring_lot(quarter, supply, value):
    """Return whether any object is a lot whose gates bring in more than the quarter lets out."""
    _check_supply(quarter, supply)
    return is_lot(quarter.gates(), value) and _bars(quarter, supply, value)


def price_of(quarter, town, start, goal, number):
    """Return the least cost of a flow of an amount, None if it is greater than the most."""
    streets, origin, target = asked_net(quarter, town, start, goal)
    check_count(number)
    flow, steps = cheap_flow(streets, origin, target, number)
    if sum([more for more, _ in steps]) < number:
        return None
    return cost_of_flow(streets, flow)


def price_list(quarter, town, start, goal):
    """Return the list of the least costs of flows of the amounts 0, 1, .. up to the most."""
    streets, origin, target = asked_net(quarter, town, start, goal)
    prices = [0]
    for number, length in cheap_flow(streets, origin, target, None)[1]:
        prices = prices + [prices[-1] + length * more for more in range(1, number + 1)]
    return prices


def costs(quarter):
    """Return the dictionary from all supplies that have a carrying, ascending, to their least costs."""
    check_quarter(quarter)
    told = least_costs(quarter.streets(), quarter.gates())
    return {supply: told[supply] for supply in sorted(told)}


def _brought(supply):
    """Return how much comes in by a supply, all in all."""
    return sum([number for number in supply if number > 0])


def _least_brought(supplies):
    """Return the list of the supplies, in their order, by which as little comes in as can be."""
    least = min([_brought(supply) for supply in supplies], default=0)
    return [supply for supply in supplies if _brought(supply) == least]


def _unlike_supplies(elder, newer):
    """Return the supplies with unlike least costs by which as little comes in as can be."""
    check_pair(elder, newer)
    before, after = costs(elder), costs(newer)
    supplies = sorted(set(list(before) + list(after)))
    return _least_brought([supply for supply in supplies if before.get(supply) != after.get(supply)])


def _is_one_of(quarter, supplies, value):
    """Return whether any object is one of some supplies of a quarter."""
    return _is_supply(quarter, value) and value in supplies


def are_price_alike(elder, newer):
    """Return whether for every town all amounts cost the same in two quarters."""
    return not _unlike_supplies(elder, newer)


def unlike_supply(elder, newer):
    """Return a least supply with unlike least costs, None if there is none."""
    supplies = _unlike_supplies(elder, newer)
    return supplies[0] if supplies else None


def is_unlike_supply(elder, newer, value):
    """Return whether any object is a least supply with unlike least costs."""
    return _is_one_of(elder, _unlike_supplies(elder, newer), value)


def price_town(quarter, supply):
    """Return a tuple (town, start, goal, number) that asks for the least cost of a supply."""
    _check_supply(quarter, supply)
    if _brought(supply) == 0:
        raise InvalidSupply(supply)
    numbers = _numbers(quarter, supply)
    start, goal = free_words(quarter.gates(), 2)
    rows = [(start, gate, numbers[gate]) for gate in numbers if numbers[gate] > 0]
    rows = rows + [(gate, goal, -numbers[gate]) for gate in numbers if numbers[gate] < 0]
    # All of these are full if so much is sent, and cost nothing.
    town = Town([(word_at(at), begin, end, width, 0) for at, (begin, end, width) in enumerate(rows)])
    return (town, start, goal, _brought(supply))


def _dearer_supplies(elder, newer):
    """Return the supplies that are dearer, or cannot be carried any more, of the least that comes in."""
    check_pair(elder, newer)
    before, after = costs(elder), costs(newer)
    return _least_brought([supply for supply in before
                           if after.get(supply) is None or after[supply] > before[supply]])


def is_never_dearer(elder, newer):
    """Return whether for every town no amount costs more in the newer quarter."""
    return not _dearer_supplies(elder, newer)


def dearer_supply(elder, newer):
    """Return a least supply that is dearer in the newer quarter, None if there is none."""
    supplies = _dearer_supplies(elder, newer)
    return supplies[0] if supplies else None


def is_dearer_supply(elder, newer, value):
    """Return whether any object is a least supply that is dearer in the newer quarter."""
    return _is_one_of(elder, _dearer_supplies(elder, newer), value)
