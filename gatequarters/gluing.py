"""Quarters that are glued at their gates, and what a town can see of the whole."""

from gatequarters.counts import check_count_to
from gatequarters.errors import InvalidDealing, InvalidLot, InvalidPlace, InvalidQuarters, InvalidTable
from gatequarters.joints import check_plan, glued_quarter, joined_entries, own_plan
from gatequarters.measures import all_measures, check_measure, parts_needed
from gatequarters.nets import places_of_net, streets_of_net
from gatequarters.quarters import Quarter, asked_of, check_pair, check_quarter, ends_of, is_word
from gatequarters.tables import is_table, table_of
from gatequarters.words import free_words, word_at


def _check_quarters(value):
    """Raise InvalidQuarters unless any object is a list of quarters, not empty."""
    if not isinstance(value, list) or not value:
        raise InvalidQuarters(value)
    if not all([isinstance(quarter, Quarter) for quarter in value]):
        raise InvalidQuarters(value)


def glued(quarters, plan):
    """Return the quarter that some quarters make by a plan."""
    _check_quarters(quarters)
    check_plan([quarter.gates() for quarter in quarters], plan)
    return glued_quarter(quarters, plan)


def _gates_told(table):
    """Return the ascending gates of the keys of a table; None if a key is no tuple of words.

    An empty table, of one gate that is not told, has none.
    """
    for key in table:
        if not isinstance(key, tuple) or not all([is_word(gate) for gate in key]):
            return None
    return sorted({gate for key in table for gate in key})


def _part_gates(value, needed):
    """Return the gates of a part's tables, None if any object is no dictionary of these.

    Some measures' tables must be among them, and all must be of the same gates.
    """
    if not isinstance(value, dict) or not all([measure in value for measure in needed]):
        return None
    gates = None
    for measure in value:
        if measure not in all_measures() or not isinstance(value[measure], dict):
            return None
        told = _gates_told(value[measure])
        if gates is not None and told != gates:
            return None
        # Where no gates are told, there is one alone, of which there is no table but the empty one.
        if value[measure] and (not told or not is_table(told, measure, value[measure])):
            return None
        gates = told
    return gates


def _check_parts(measure, tables, plan):
    """Raise InvalidTable or InvalidPlan unless tables of parts, and a plan for them, are passed."""
    if not isinstance(tables, list) or not tables:
        raise InvalidTable(tables)
    gate_lists = [_part_gates(part, parts_needed(measure)) for part in tables]
    if None in gate_lists:
        raise InvalidTable(tables)
    check_plan(gate_lists, plan)


def glued_table(measure, tables, plan):
    """Return the table of the glued quarter by a measure, from the tables of its parts."""
    check_measure(measure, all_measures())
    _check_parts(measure, tables, plan)
    return joined_entries(measure, tables, plan)


def _tables_of(quarters, measure):
    """Return for each quarter the dictionary of the tables that tell those of a glued one."""
    return [{word: table_of(quarter, word) for word in parts_needed(measure)} for quarter in quarters]


def alike_inside(quarters, plan, at, newer, measure):
    """Return whether no town tells the whole from the one with another quarter at a position."""
    _check_quarters(quarters)
    check_plan([quarter.gates() for quarter in quarters], plan)
    check_count_to(at, len(quarters) - 1)
    check_pair(quarters[at], newer)
    check_measure(measure, all_measures())
    exchanged = quarters[:at] + [newer] + quarters[at + 1:]
    wholes = [joined_entries(measure, _tables_of(parts, measure), plan) for parts in (quarters, exchanged)]
    return wholes[0] == wholes[1]


def _with_entry(measure, tables, at, key, told):
    """Return the tables of parts by a measure, with another entry at a key of one of them."""
    others = [{measure: part[measure]} for part in tables]
    table = {pair: told if pair == key else tables[at][measure][pair] for pair in tables[at][measure]}
    return others[:at] + [{measure: table}] + others[at + 1:]


def _entry_bounds(measure, low, own, high, told):
    """Return the least and the greatest value, None if unbounded, that leave an entry of the whole.

    This is low with the value 0, own with the value that is told, and high without a bound, or
    without a way, (None, None) if there must be none.
    """
    if low == high:
        return (0, None)
    if own == high:
        if high is None:
            return (None, None)
        # A width counts for itself; lengths, and what leaves, are added to others.
        return (high if measure == "widest" else high - low, None)
    if measure == "widest" and own == low:
        return (0, low)
    return (told, told)


def _common_room(bounds):
    """Return the tuple of the least and the greatest value that lie in all of some bounds."""
    if (None, None) in bounds:
        return (None, None)
    greatest = [high for _, high in bounds if high is not None]
    return (max([low for low, _ in bounds], default=0), min(greatest, default=None))


def entry_room(measure, tables, plan, at, key):
    """Return the tuple (least, greatest) of the values of an entry that leave the glued table."""
    check_measure(measure, ["most", "way", "widest"])
    _check_parts(measure, tables, plan)
    check_count_to(at, len(tables) - 1)
    if key not in list(tables[at][measure]):
        raise InvalidLot(key)
    told = tables[at][measure][key]
    counts = [number for part in tables for number in part[measure].values() if number is not None]
    boundless = None if measure == "way" else 1 + sum(counts)
    low, own, high = [joined_entries(measure, _with_entry(measure, tables, at, key, value), plan)
                      for value in (0, told, boundless)]
    return _common_room([_entry_bounds(measure, low[pair], own[pair], high[pair], told) for pair in own])


def _check_dealing(quarter, value):
    """Raise InvalidQuarter or InvalidDealing unless any object deals out a quarter's streets."""
    check_quarter(quarter)
    names = [street[0] for street in quarter.streets()]
    if not isinstance(value, list) or not value:
        raise InvalidDealing(value)
    if not all([isinstance(part, list) and 0 < len(part) for part in value]):
        raise InvalidDealing(value)
    dealt = [name for part in value for name in part]
    if len(dealt) != len(names) or not all([name in dealt for name in names]):
        raise InvalidDealing(value)


def _piece(quarter, names):
    """Return the quarter of some streets of a quarter, with gates where it meets what is beyond."""
    streets = [street for street in quarter.streets() if street[0] in names]
    beyond = quarter.gates() + ends_of([street for street in quarter.streets() if street[0] not in names])
    crossings = sorted(set(ends_of(streets)))
    gates = [crossing for crossing in crossings if crossing in beyond]
    return Quarter(streets, gates if gates else crossings[:1])


def pieces_of(quarter, dealing):
    """Return a tuple (quarters, plan) of the pieces of a quarter, and how to glue them again."""
    _check_dealing(quarter, dealing)
    pieces = [_piece(quarter, names) for names in dealing]
    return (pieces, own_plan(pieces, quarter.gates()))


def with_town(quarter, town, places):
    """Return the quarter of all streets of a net whose gates are some of its places."""
    words = asked_of(quarter, town)
    if not isinstance(places, list) or not all([place in words for place in places]):
        raise InvalidPlace(places)
    if not 1 <= len(places) <= 5 or len(set(places)) != len(places):
        raise InvalidPlace(places)
    inner = [place for place in places_of_net(quarter, town)
             if place[0] == "quarter" or place[1] not in places]
    crossings = dict(zip(inner, free_words(places, len(inner))))
    streets = [(word_at(at), crossings.get(start, start[1]), crossings.get(end, end[1]), width, length)
               for at, (_, start, end, width, length) in enumerate(streets_of_net(quarter, town))]
    return Quarter(streets, places)
