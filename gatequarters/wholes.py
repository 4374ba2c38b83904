"""The whole of some quarters that lie at spots, and promises about it.

Quarters are told as a dictionary from spots, ascending; each gate lies at the square of its
own word.
"""

from gatequarters.entries import is_worse
from gatequarters.joints import glued_quarter, joined_entries, own_plan
from gatequarters.measures import is_of_pairs, parts_needed
from gatequarters.notices import holding_notice
from gatequarters.quarters import Town
from gatequarters.tables import table_of


def whole_of(gates, quarters):
    """Return the whole of some quarters."""
    parts = list(quarters.values())
    return glued_quarter(parts, own_plan(parts, gates))


def whole_entries(gates, quarters, measure):
    """Return the table of the whole by a measure, from the tables of its quarters."""
    parts = list(quarters.values())
    tables = [{word: table_of(quarter, word) for word in parts_needed(measure)} for quarter in parts]
    return joined_entries(measure, tables, own_plan(parts, gates))


def breaking_keys(measure, kind, promised, entries):
    """Return the list of the keys at which entries break a promise of a kind, in their order."""
    if kind == "alike":
        return [key for key in promised if entries[key] != promised[key]]
    return [key for key in promised if is_worse(measure, entries[key], promised[key])]


def breaks(measure, kind, promised, entry):
    """Return whether an answer breaks a promise of a kind."""
    return entry != promised if kind == "alike" else is_worse(measure, entry, promised)


def town_at(gates, measure, key, quarters):
    """Return a tuple (town, start, goal) that is answered by the entry of a key, around some quarters."""
    if is_of_pairs(measure):
        return (Town([]), key[0], key[1])
    return holding_notice(gates, key, quarters)


def with_quarter(quarters, spot, quarter):
    """Return the quarters with another one at a spot; None takes away what lies there."""
    others = {at: quarters[at] for at in quarters if at != spot}
    if quarter is not None:
        others[spot] = quarter
    return {at: others[at] for at in sorted(others)}
