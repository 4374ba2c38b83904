"""Whether two quarters are alike for every town, and towns that notice that they are not."""

from gatequarters.errors import InvalidLot
from gatequarters.evenness import heard_by_most, heard_by_way
from gatequarters.measures import all_measures, check_measure, is_of_pairs, keys_of
from gatequarters.nets import check_places, is_question
from gatequarters.notices import fewest_gates, fewest_steps, holding_notice, wide_town
from gatequarters.quarters import Quarter, Town, check_gates, check_pair, check_town, places_of
from gatequarters.tables import answer_by, table_of


def _tables(one, other, measure):
    """Return the tables of two quarters by a measure, refused if they cannot be compared."""
    check_pair(one, other)
    check_measure(measure, all_measures())
    return [table_of(one, measure), table_of(other, measure)]


def is_alike(one, other, measure):
    """Return whether no town tells two quarters apart by a measure."""
    tables = _tables(one, other, measure)
    return tables[0] == tables[1]


def alike_measures(one, other):
    """Return the ascending list of the measures by which no town tells two quarters apart."""
    check_pair(one, other)
    return [measure for measure in all_measures() if is_alike(one, other, measure)]


def asked(quarter, measure, town, start, goal):
    """Return the measure between two places of a net."""
    # What a town finds hangs on the table alone.
    table = table_of(quarter, measure)
    return answer_by(quarter.gates(), measure, table, town, start, goal)


def unlike_keys(one, other, measure):
    """Return the ascending list of the keys at which the tables of two quarters are unlike."""
    tables = _tables(one, other, measure)
    return [key for key in keys_of(one.gates(), measure) if tables[0][key] != tables[1][key]]


def notice_of(one, other, measure):
    """Return a notice of fewest streets, None if the quarters are alike."""
    unlike = unlike_keys(one, other, measure)
    if not unlike:
        return None
    if is_of_pairs(measure):
        return (Town([]), unlike[0][0], unlike[0][1])
    steps, start, goal = fewest_steps(one.gates(), _tables(one, other, measure))
    return (wide_town(steps, [one, other]), start, goal)


def notice_size(one, other, measure):
    """Return how many streets the town of a notice has at least, None if there is no notice."""
    notice = notice_of(one, other, measure)
    return None if notice is None else len(notice[0].streets())


def is_notice(one, other, measure, value):
    """Return whether any object is a notice."""
    tables = _tables(one, other, measure)
    if not is_question(one, value):
        return False
    answers = [answer_by(one.gates(), measure, table, value[0], value[1], value[2]) for table in tables]
    return answers[0] != answers[1]


def notice_at(one, other, measure, key):
    """Return a notice whose two answers are the entries of the two tables at a key."""
    if key not in unlike_keys(one, other, measure):
        raise InvalidLot(key)
    if is_of_pairs(measure):
        return (Town([]), key[0], key[1])
    return holding_notice(one.gates(), key, [one, other])


def _check_even(gates, measure, one, other, start, goal):
    """Raise the first error unless two towns can be compared between two places."""
    check_gates(gates)
    check_measure(measure, ["most", "way"])
    check_town(one)
    check_town(other)
    common = [place for place in places_of(one) if place in places_of(other)]
    check_places(gates + common, start, goal)


def are_even(gates, measure, one, other, start, goal):
    """Return whether no quarter tells two towns apart between two places."""
    return hearing_quarter(gates, measure, one, other, start, goal) is None


def hearing_quarter(gates, measure, one, other, start, goal):
    """Return a quarter that tells two towns apart between two places, None if there is none."""
    _check_even(gates, measure, one, other, start, goal)
    if measure == "most":
        return heard_by_most(sorted(gates), [one, other], start, goal)
    return heard_by_way(sorted(gates), [one, other], start, goal)


def is_hearing_quarter(gates, measure, one, other, start, goal, value):
    """Return whether any object is a quarter that tells two towns apart between two places."""
    _check_even(gates, measure, one, other, start, goal)
    if not isinstance(value, Quarter) or value.gates() != sorted(gates):
        return False
    return asked(value, measure, one, start, goal) != asked(value, measure, other, start, goal)


def gates_needed(one, other, measure):
    """Return the least number of gates that the town of some notice uses, None if there is none."""
    tables = _tables(one, other, measure)
    if is_of_pairs(measure):
        return None if tables[0] == tables[1] else 2
    return fewest_gates(one.gates(), tables)
