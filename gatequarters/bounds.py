"""Numbers from which on something holds, and the rooms between two of them."""


def first_that_holds(holds, low, high):
    """Return the least number from low to high for which something holds, None if there is none.

    What holds for a number must hold for all greater ones.
    """
    if not holds(high):
        return None
    # It holds for high, and for nothing below low.
    while low < high:
        middle = (low + high) // 2
        if holds(middle):
            high = middle
        else:
            low = middle + 1
    return low


def room_between(begins, lasts, bound):
    """Return the tuple (least, most) of the counts for which two things hold, None if none.

    The first one must hold for all numbers that are greater than one for which it holds, the
    other one for all lesser ones; neither changes beyond the bound. If there is no most one,
    None stands for it.
    """
    least = first_that_holds(begins, 0, bound)
    if least is None or not lasts(least):
        return None
    ended = first_that_holds(lambda number: not lasts(number), least, bound)
    return (least, None if ended is None else ended - 1)
