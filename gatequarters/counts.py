"""Numbers, as the arguments of this package are judged by them."""

from gatequarters.errors import InvalidCount


def is_whole(value):
    """Return whether any object is a whole number, of any sign."""
    # Python takes True and False for integers; here they are none.
    return isinstance(value, int) and not isinstance(value, bool)


def is_count(value):
    """Return whether any object is a count, a whole number of at least 0."""
    return is_whole(value) and value >= 0


def check_count(value):
    """Raise InvalidCount unless any object is a count."""
    if not is_count(value):
        raise InvalidCount(value)


def check_count_to(value, greatest):
    """Raise InvalidCount unless any object is a count of at most a number."""
    if not is_count(value) or value > greatest:
        raise InvalidCount(value)
