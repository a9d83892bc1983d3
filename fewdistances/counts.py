"""How often the fars of a lot come, and points that are equally far."""

from fewdistances.checks import need_number
from fewdistances.errors import NoPoint
from fewdistances.points import far_between, far_table, fars, need_lot, need_point


def many_fars(lot):
    """Tell how many unlike fars a lot has."""
    return len(fars(lot))


def often(lot, number):
    """Tell how many pairs of points of a lot have a number as their far."""
    table = far_table(lot)
    need_number(number)
    return sum([many for far, many in table if far == number])


def most_often(lot):
    """Tell (far, how many) of the far that most pairs have, None of one point."""
    best = None
    for far, many in far_table(lot):
        # The table rises: only more pairs displace a lesser far.
        if best is None or many > best[1]:
            best = (far, many)
    return best


def singles(lot):
    """Tell the rising list of the fars that just one pair has."""
    return [far for far, many in far_table(lot) if many == 1]


def rings(lot, point):
    """Tell what from_point tells, of a lot and a point that have been looked at."""
    groups = {}
    for other in lot:
        if other != point:
            far = far_between(point, other)
            groups[far] = groups.get(far, ()) + (other,)
    return sorted(groups.items())


def from_point(lot, point):
    """Tell the rising list of (far, the other points so far from the point)."""
    need_lot(lot)
    need_point(point)
    if point not in lot:
        raise NoPoint("the point is none of the lot")
    return rings(lot, point)


def even_threes(lot):
    """Tell how many (p, q, r) have p as far from q as from r, q less than r."""
    need_lot(lot)
    total = 0
    for point in lot:
        for far, ring in rings(lot, point):
            total += len(ring) * (len(ring) - 1) // 2
    return total


def first_even(lot):
    """Tell the first of the even threes, None where there is none."""
    need_lot(lot)
    for point in lot:
        # Each ring rises, so its first two are the least of its threes.
        threes = [(point, ring[0], ring[1]) for far, ring in rings(lot, point) if len(ring) > 1]
        if threes:
            return min(threes)
    return None
