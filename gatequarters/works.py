"""Works that are done one after the other, so that no town is ever worse off than promised."""

from gatequarters.counts import is_count
from gatequarters.errors import InvalidCount, InvalidLot
from gatequarters.lots import check_positions
from gatequarters.measures import all_measures, check_measure, keys_of
from gatequarters.orders import is_worse_town, worse_town
from gatequarters.quarters import check_pair, check_quarter, check_streets
from gatequarters.stages import Worksite, are_lots_of, best_kept_order, is_order, order_values
from gatequarters.stages import quarter_while, worst_of
from gatequarters.tables import table_of


def stage_of(quarter, works, lot):
    """Return the quarter with a lot of works done."""
    return during(quarter, works, lot, [])


def during(quarter, works, lot, now):
    """Return the quarter with a lot of works done while those of another lot are being done."""
    check_quarter(quarter)
    check_streets(works)
    check_positions(lot, len(works))
    check_positions(now, len(works))
    if any([at in lot for at in now]):
        raise InvalidLot(now)
    return quarter_while(quarter, works, lot, now)


def _held_site(quarter, works, floor, measure):
    """Return the works held against a floor, refused if anything does not fit."""
    check_quarter(quarter)
    check_streets(works)
    check_pair(quarter, floor)
    check_measure(measure, all_measures())
    return Worksite(quarter, works, measure, table_of(floor, measure))


def safe_order(quarter, works, floor, measure):
    """Return an order of the works whose moments all hold the floor, None if there is none."""
    levels = _held_site(quarter, works, floor, measure).orders()
    return list(levels[-1].values())[0] if len(levels) == len(works) + 1 else None


def is_safe_order(quarter, works, floor, measure, value):
    """Return whether any object is an order of the works whose moments all hold the floor."""
    site = _held_site(quarter, works, floor, measure)
    return is_order(value, len(works)) and site.first_that_fails(value) is None


def lots_reached(quarter, works, floor, measure):
    """Return the list of the lots of works that some order, safe so far, leads to."""
    levels = _held_site(quarter, works, floor, measure).orders()
    return [list(lot) for level in levels for lot in sorted(level)]


def is_bar(quarter, works, floor, measure, value):
    """Return whether any object is a list of lots of works that shows that no order is safe."""
    site = _held_site(quarter, works, floor, measure)
    if not are_lots_of(value, len(works)):
        return False
    if not value:
        return not site.holds([], [])
    if any([value.count(lot) > 1 for lot in value]):
        return False
    return [] in value and site.every_work() not in value and site.is_closed(value)


def _check_nights(quarter, works, floor, measure, most_works):
    """Return the works held against a floor, refused if anything does not fit."""
    site = _held_site(quarter, works, floor, measure)
    if not is_count(most_works) or most_works == 0:
        raise InvalidCount(most_works)
    return site


def fewest_nights(quarter, works, floor, measure, most_works):
    """Return the least number of nights in which all works can be done, None if they cannot."""
    lots = night_lots(quarter, works, floor, measure, most_works)
    return None if lots is None else len(lots)


def night_lots(quarter, works, floor, measure, most_works):
    """Return a safe list of as few nights as can be, None if there is none."""
    site = _check_nights(quarter, works, floor, measure, most_works)
    return site.nights(most_works)


def are_night_lots(quarter, works, floor, measure, most_works, value):
    """Return whether any object is a safe list of as few nights as can be."""
    fewest = fewest_nights(quarter, works, floor, measure, most_works)
    if fewest is None or not are_lots_of(value, len(works)) or len(value) != fewest:
        return False
    if not all([1 <= len(night) <= most_works for night in value]):
        return False
    site = _held_site(quarter, works, floor, measure)
    return is_order([at for night in value for at in night], len(works)) and site.are_safe_nights(value)


def _asked_site(quarter, works, measure, key):
    """Return the works, to be asked for an entry, refused if anything does not fit."""
    check_quarter(quarter)
    check_streets(works)
    check_measure(measure, all_measures())
    if key not in keys_of(quarter.gates(), measure):
        raise InvalidLot(key)
    return Worksite(quarter, works, measure, table_of(quarter, measure))


def best_kept(quarter, works, measure, key):
    """Return the best value of an entry that some order never falls below."""
    return best_kept_order(_asked_site(quarter, works, measure, key), measure, key)[0]


def best_order(quarter, works, measure, key):
    """Return an order that never falls below the best value of an entry."""
    return best_kept_order(_asked_site(quarter, works, measure, key), measure, key)[1]


def is_best_order(quarter, works, measure, key, value):
    """Return whether any object is an order that never falls below the best value of an entry."""
    best = best_kept(quarter, works, measure, key)
    if not is_order(value, len(works)):
        return False
    site = _asked_site(quarter, works, measure, key)
    return worst_of(measure, order_values(site, measure, key, value)) == best


def _first_bad(quarter, works, floor, measure, order):
    """Return a tuple (done, now, quarter) of the first moment of an order that does not hold, or None."""
    site = _held_site(quarter, works, floor, measure)
    if not is_order(order, len(works)):
        raise InvalidLot(order)
    found = site.first_that_fails(order)
    if found is None:
        return None
    done, now = found
    return (len(done), now[0] if now else None, quarter_while(quarter, works, done, now))


def bad_moment(quarter, works, floor, measure, order):
    """Return a tuple (done, now, town, start, goal) of the first bad moment, None if there is none."""
    found = _first_bad(quarter, works, floor, measure, order)
    if found is None:
        return None
    return found[:2] + worse_town(floor, found[2], measure)


def is_bad_moment(quarter, works, floor, measure, order, value):
    """Return whether any object is a tuple of the first bad moment and a town that is worse off."""
    found = _first_bad(quarter, works, floor, measure, order)
    if found is None or not isinstance(value, tuple) or len(value) != 5:
        return False
    # True stands for no number, though it equals 1.
    if not is_count(value[0]) or not (value[1] is None or is_count(value[1])):
        return False
    return value[:2] == found[:2] and is_worse_town(floor, found[2], measure, value[2:])
