"""Whether a newer quarter is never worse for any town, and what would mend it."""

from itertools import permutations

from gatequarters.bounds import first_that_holds
from gatequarters.entries import entries_of, is_worse, worse_keys
from gatequarters.lots import check_names, fewest_lots
from gatequarters.measures import all_measures, check_measure, is_of_pairs
from gatequarters.nets import is_question
from gatequarters.notices import holding_notice
from gatequarters.quarters import Town, check_pair, street_of
from gatequarters.streams import set_widths, width_sum
from gatequarters.tables import answer_by, table_of
from gatequarters.words import word_at


def _check_compared(elder, newer, measure):
    """Raise the first error unless two quarters can be compared by a measure."""
    check_pair(elder, newer)
    check_measure(measure, all_measures())


def worse_entries(elder, newer, measure):
    """Return the ascending list of the keys at which the newer quarter's entry is worse."""
    _check_compared(elder, newer, measure)
    return worse_keys(measure, table_of(newer, measure), table_of(elder, measure))


def never_worse(elder, newer, measure):
    """Return whether no town is worse off with the newer quarter."""
    return not worse_entries(elder, newer, measure)


def standing(elder, newer, measure):
    """Return how the newer quarter stands to the elder one: alike, better, worse or mixed."""
    worse = worse_entries(elder, newer, measure)
    better = worse_entries(newer, elder, measure)
    if worse:
        return "mixed" if better else "worse"
    return "better" if better else "alike"


def _longest_way_round(gates, before, after):
    """Return the greatest number by which a way is longer with tables of ways before and after.

    What a town makes worst of it goes several times through the quarter, by gates that are
    all unlike, and between from gate to gate by streets of length 0.
    """
    losses = []
    for many in range(2, len(gates) + 1, 2):
        for row in permutations(gates, many):
            town = Town([(word_at(at), row[at], row[at + 1], 1, 0) for at in range(1, many - 1, 2)])
            lengths = [answer_by(gates, "way", table, town, row[0], row[-1]) for table in (before, after)]
            if lengths[0] is not None:
                losses.append(lengths[1] - lengths[0])
    return max(losses)


def greatest_loss(elder, newer, measure):
    """Return the greatest number by which the newer quarter is worse; None if a way is lost."""
    worse = worse_entries(elder, newer, measure)
    before, after = table_of(elder, measure), table_of(newer, measure)
    if measure != "way":
        return max([before[key] - after[key] for key in worse], default=0)
    if not worse:
        return 0
    if any([after[key] is None for key in worse]):
        return None
    return _longest_way_round(elder.gates(), before, after)


def worse_town(elder, newer, measure):
    """Return a tuple (town, start, goal) that is worse off, None if there is none."""
    worse = worse_entries(elder, newer, measure)
    if not worse:
        return None
    if is_of_pairs(measure):
        return (Town([]), worse[0][0], worse[0][1])
    return holding_notice(elder.gates(), worse[0], [elder, newer])


def is_worse_town(elder, newer, measure, value):
    """Return whether any object is a tuple (town, start, goal) that is worse off."""
    _check_compared(elder, newer, measure)
    if not is_question(elder, value):
        return False
    town, start, goal = value
    before = answer_by(elder.gates(), measure, table_of(elder, measure), town, start, goal)
    after = answer_by(newer.gates(), measure, table_of(newer, measure), town, start, goal)
    return is_worse(measure, after, before)


def _bound_of(elder, newer):
    """Return a width beyond which nothing grows that is held against the elder quarter."""
    return 1 + width_sum(elder.streets()) + width_sum(newer.streets())


def _boundless(streets, names, measure, bound):
    """Return streets, those of some names without bound: as wide, or as short, as can be."""
    if measure != "way":
        return set_widths(streets, names, bound)
    return [(name, start, end, max(width, 1), 0) if name in names else (name, start, end, width, length)
            for name, start, end, width, length in streets]


def _mending(elder, newer, measure):
    """Return the function that tells whether a lot of streets mends."""
    streets, gates, bound = newer.streets(), newer.gates(), _bound_of(elder, newer)
    before = table_of(elder, measure)
    return lambda lot: not worse_keys(
        measure, entries_of(_boundless(streets, lot, measure, bound), gates, measure), before)


def _check_mended(elder, newer, measure):
    """Raise the first error unless lots of streets can mend by a measure."""
    check_pair(elder, newer)
    check_measure(measure, ["most", "way", "widest"])


def mending_lots(elder, newer, measure):
    """Return the ascending list of the lots of streets that mend, while none within them does."""
    _check_mended(elder, newer, measure)
    names = [street[0] for street in newer.streets()]
    return fewest_lots(names, _mending(elder, newer, measure))


def is_mending(elder, newer, measure, lot):
    """Return whether a lot of streets mends."""
    _check_mended(elder, newer, measure)
    check_names(newer, lot)
    mends = _mending(elder, newer, measure)
    return mends(lot)


def least_width(elder, newer, name, measure):
    """Return the least width, from its own on, with which a street makes the newer quarter never
    worse, None if there is none."""
    check_pair(elder, newer)
    own = street_of(newer, name)[3]
    check_measure(measure, ["most", "shut1", "shut2", "widest"])
    before = table_of(elder, measure)

    def is_enough(width):
        entries = entries_of(set_widths(newer.streets(), [name], width), newer.gates(), measure)
        return not worse_keys(measure, entries, before)

    return first_that_holds(is_enough, own, _bound_of(elder, newer))
