"""Points, lots of them, and how far they are from one another."""

from fewdistances.checks import is_rising, is_within
from fewdistances.errors import NoLot, NoPoint

LEAST_NUMBER = -1000
MOST_NUMBER = 1000
MOST_POINTS = 40


def is_point(thing):
    """Tell of anything whether it is a point."""
    if not isinstance(thing, tuple) or len(thing) != 2:
        return False
    return all([is_within(number, LEAST_NUMBER, MOST_NUMBER) for number in thing])


def is_lot(thing):
    """Tell of anything whether it is a lot."""
    if not isinstance(thing, tuple) or not 1 <= len(thing) <= MOST_POINTS:
        return False
    # Only points are sure to compare, so the order is looked at last.
    return all([is_point(point) for point in thing]) and is_rising(thing)


def need_point(thing):
    """Refuse what is no point."""
    if not is_point(thing):
        raise NoPoint("a point is needed")


def need_lot(thing):
    """Refuse what is no lot."""
    if not is_lot(thing):
        raise NoLot("a lot is needed")


def far_between(one, other):
    """Tell the far of two points that have been looked at."""
    across = one[0] - other[0]
    up = one[1] - other[1]
    return across * across + up * up


def far_of(one, other):
    """Tell the far of two points, perhaps alike."""
    need_point(one)
    need_point(other)
    return far_between(one, other)


def pairs_by_far(points):
    """Tell, of each far of points that have been looked at, the pairs that have it."""
    # Of a lot the pairs come rising, so each list rises, and so do the firsts of the lists.
    pairs = {}
    for at, one in enumerate(points):
        for other in points[at + 1:]:
            pairs.setdefault(far_between(one, other), []).append((one, other))
    return pairs


def far_table(lot):
    """Tell the rising list of (far, how many pairs of the lot have it)."""
    need_lot(lot)
    return sorted([(far, len(pairs)) for far, pairs in pairs_by_far(lot).items()])


def fars(lot):
    """Tell the rising list of the fars of a lot, each once."""
    return [far for far, many in far_table(lot)]
