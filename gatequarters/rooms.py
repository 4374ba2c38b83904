"""The widths and lengths of a street that no town notices, and what bars all others."""

from gatequarters.bounds import first_that_holds, room_between
from gatequarters.counts import check_count
from gatequarters.entries import entries_of, is_worse
from gatequarters.errors import InvalidName
from gatequarters.lots import is_sublist
from gatequarters.measures import all_measures, check_measure
from gatequarters.quarters import street_of
from gatequarters.streams import set_lengths, set_widths, width_sum
from gatequarters.tables import table_of


def entries_with(quarter, name, width, measure):
    """Return the table of a quarter in which one street has another width."""
    street_of(quarter, name)
    check_count(width)
    check_measure(measure, all_measures())
    return entries_of(set_widths(quarter.streets(), [name], width), quarter.gates(), measure)


def _unlike(entries, own):
    """Return the list of the keys at which entries are not a quarter's own."""
    return [key for key in own if entries[key] != own[key]]


def noticed_at(quarter, name, width, measure):
    """Return the ascending list of the keys at which another width of a street is noticed."""
    entries = entries_with(quarter, name, width, measure)
    return _unlike(entries, table_of(quarter, measure))


def _worse_at(measure, keys, entries, others):
    """Return the list of those keys at which entries are worse than others."""
    return [key for key in keys if is_worse(measure, entries[key], others[key])]


def _width_told(quarter, streets, name, measure):
    """Return the function that tells the entries for each width of a street among some."""
    return lambda width: entries_of(set_widths(streets, [name], width), quarter.gates(), measure)


def _length_told(quarter, name):
    """Return the function that tells the entries of ways for each length of a street."""
    return lambda length: entries_of(set_lengths(quarter.streets(), [name], length), quarter.gates(), "way")


def _width_bound(quarter, width):
    """Return a width beyond which no entry of a quarter changes, or one is noticed.

    In the quarter one street may have another width.
    """
    return 1 + width_sum(quarter.streets()) + width


def _length_bound(quarter):
    """Return a length beyond which no entry of a quarter changes, or one is noticed."""
    return 1 + sum([street[4] for street in quarter.streets()])


def _width_room(told, own, keys, measure, bound):
    """Return the tuple (least, most) of the widths that leave the own entries at some keys.

    None if no width does; wider streets make no entry worse.
    """
    return room_between(
        lambda width: not _worse_at(measure, keys, told(width), own),
        lambda number: not _worse_at(measure, keys, own, told(number)),
        bound,
    )


def _own_width_room(quarter, name, measure):
    """Return the room of the widths of a street, all others as they are."""
    told = _width_told(quarter, quarter.streets(), name, measure)
    own = table_of(quarter, measure)
    return _width_room(told, own, list(own), measure, _width_bound(quarter, 0))


def width_room(quarter, name, measure):
    """Return the tuple (least, most) of the widths of a street that no town notices."""
    street_of(quarter, name)
    check_measure(measure, all_measures())
    return _own_width_room(quarter, name, measure)


def _barring_keys(told, own, room):
    """Return the tuple of the keys that notice one below a room, and of those that notice one above.

    None stands for them where the room has no such end.
    """
    least, greatest = room
    below = None if least == 0 else _unlike(told(least - 1), own)
    above = None if greatest is None else _unlike(told(greatest + 1), own)
    return (below, above)


def _first_bars(barring):
    """Return a tuple of one of the keys below and one of those above, None where there are none."""
    return tuple([None if keys is None else keys[0] for keys in barring])


def _are_bars(barring, value):
    """Return whether any object is a tuple of a key below and a key above."""
    if not isinstance(value, tuple) or len(value) != 2:
        return False
    return all([bar is None if keys is None else bar in keys for keys, bar in zip(barring, value)])


def _width_barring(quarter, name, measure):
    """Return the tuples of keys that bar the widths below and above the room of a street."""
    room = width_room(quarter, name, measure)
    told = _width_told(quarter, quarter.streets(), name, measure)
    return _barring_keys(told, table_of(quarter, measure), room)


def width_bars(quarter, name, measure):
    """Return a tuple of a key that bars the widths below the room, and of one for those above."""
    return _first_bars(_width_barring(quarter, name, measure))


def are_width_bars(quarter, name, measure, value):
    """Return whether any object is a tuple of keys that bar the widths below and above the room."""
    return _are_bars(_width_barring(quarter, name, measure), value)


def length_room(quarter, name):
    """Return the tuple (least, most) of the lengths of a street that no town notices."""
    street_of(quarter, name)
    own = table_of(quarter, "way")
    told = _length_told(quarter, name)
    # Longer streets make no entry better.
    return room_between(
        lambda length: not _worse_at("way", list(own), own, told(length)),
        lambda number: not _worse_at("way", list(own), told(number), own),
        _length_bound(quarter),
    )


def _length_barring(quarter, name):
    """Return the tuples of keys that bar the lengths below and above the room of a street."""
    return _barring_keys(_length_told(quarter, name), table_of(quarter, "way"), length_room(quarter, name))


def length_bars(quarter, name):
    """Return a tuple of a key that bars the lengths below the room, and of one for those above."""
    street_of(quarter, name)
    return _first_bars(_length_barring(quarter, name))


def are_length_bars(quarter, name, value):
    """Return whether any object is a tuple of keys that bar the lengths below and above the room."""
    street_of(quarter, name)
    return _are_bars(_length_barring(quarter, name), value)


def _check_trade(quarter, name, width, other, measure):
    """Raise the first error unless a width of one street can be traded for that of another one."""
    street_of(quarter, name)
    check_count(width)
    street_of(quarter, other)
    if other == name:
        raise InvalidName(other)
    check_measure(measure, all_measures())


def _trade_told(quarter, name, width, other, measure):
    """Return the function that tells the entries for each width of the other street."""
    return _width_told(quarter, set_widths(quarter.streets(), [name], width), other, measure)


def _trade_room(quarter, name, width, other, measure, keys):
    """Return the room of the widths of the other street, None if none leaves the entries at keys."""
    told = _trade_told(quarter, name, width, other, measure)
    return _width_room(told, table_of(quarter, measure), keys, measure, _width_bound(quarter, width))


def trade_room(quarter, name, width, other, measure):
    """Return the tuple (least, most) of the widths of another street that make up for a width."""
    _check_trade(quarter, name, width, other, measure)
    keys = list(table_of(quarter, measure))
    return _trade_room(quarter, name, width, other, measure, keys)


def trade_bars(quarter, name, width, other, measure):
    """Return one or two keys at which no width of another street makes up for a width, or None."""
    if trade_room(quarter, name, width, other, measure) is not None:
        return None
    own = table_of(quarter, measure)
    told = _trade_told(quarter, name, width, other, measure)
    bound = _width_bound(quarter, width)
    least = first_that_holds(lambda number: not _worse_at(measure, list(own), told(number), own), 0, bound)
    if least is None:
        return _worse_at(measure, list(own), told(bound), own)[:1]
    # Some key asks for the least width, if that is not 0; by then another one is beyond its own.
    asking = _worse_at(measure, list(own), told(least - 1), own)[:1] if least > 0 else []
    beyond = _worse_at(measure, list(own), own, told(least))[:1]
    return sorted(set(asking + beyond))


def are_trade_bars(quarter, name, width, other, measure, value):
    """Return whether any object is a list of one or two keys at which no width makes up for one."""
    if trade_room(quarter, name, width, other, measure) is not None:
        return False
    if not is_sublist(value, list(table_of(quarter, measure))) or not 1 <= len(value) <= 2:
        return False
    return _trade_room(quarter, name, width, other, measure, value) is None
