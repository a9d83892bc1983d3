"""Circles of whole points, and points that lie on one circle."""

from fewdistances.checks import need_within
from fewdistances.counts import rings
from fewdistances.errors import NoCircle, NoLot
from fewdistances.points import need_lot, need_point
from fewdistances.sums import sum_ways


def circle(number):
    """Tell the rising list of the whole points that have the number as their far from (0, 0)."""
    need_within(number, 0, 10 ** 6)
    ways = sum_ways(number)
    corners = ways + [(b, a) for a, b in ways]
    return sorted({(x, y) for a, b in corners for x in (-a, a) for y in (-b, b)})


def greatest_common(one, other):
    """Tell the greatest number that divides both, of two numbers from 0 on, not both 0."""
    while other > 0:
        one, other = other, one % other
    return one


def fraction(top, bottom):
    """Tell the fraction that a top and a bottom, not 0, come to."""
    by = greatest_common(abs(top), abs(bottom))
    if bottom < 0:
        by = -by
    return (top // by, bottom // by)


def round_of(one, two, three):
    """Tell (x, y, far): the point as far from each of the three, and the far, as fractions."""
    need_point(one)
    need_point(two)
    need_point(three)
    # Seen from one, the others are (a, b) and (c, d).
    a, b = two[0] - one[0], two[1] - one[1]
    c, d = three[0] - one[0], three[1] - one[1]
    bottom = 2 * (a * d - b * c)
    if bottom == 0:
        raise NoCircle("the three points lie on one straight line")
    across = d * (a * a + b * b) - b * (c * c + d * d)
    up = a * (c * c + d * d) - c * (a * a + b * b)
    x = fraction(one[0] * bottom + across, bottom)
    y = fraction(one[1] * bottom + up, bottom)
    return (x, y, fraction(across * across + up * up, bottom * bottom))


def slant(point, one, other):
    """Tell the cotangent of the angle at the point from one to other, None where all lie on one line."""
    a, b = one[0] - point[0], one[1] - point[1]
    c, d = other[0] - point[0], other[1] - point[1]
    across = a * d - b * c
    return None if across == 0 else fraction(a * c + b * d, across)


def round_groups(one, other, points):
    """Tell the lists of those of the points that lie on one circle with one and other."""
    # Points lie on one circle with one and other just where they see them at one angle, but for half turns.
    groups = {}
    for point in points:
        seen = slant(point, one, other)
        if seen is not None:
            groups.setdefault(seen, []).append(point)
    return list(groups.values())


def pairs_and_behind(lot):
    """Tell the rising list of (one, other, the points behind both)."""
    many = len(lot)
    return [(lot[at], lot[to], lot[to + 1:]) for at in range(many) for to in range(at + 1, many)]


def is_round(lot):
    """Tell whether all points of the lot lie on one circle."""
    need_lot(lot)
    if len(lot) < 3:
        return True
    return round_groups(lot[0], lot[1], lot[2:]) == [list(lot[2:])]


def round_fours(lot):
    """Tell how many lots of four points of the lot lie on one circle."""
    need_lot(lot)
    total = 0
    for one, other, behind in pairs_and_behind(lot):
        for group in round_groups(one, other, behind):
            total += len(group) * (len(group) - 1) // 2
    return total


def first_round(lot):
    """Tell the first four points of the lot that lie on one circle, None where there are none."""
    need_lot(lot)
    for one, other, behind in pairs_and_behind(lot):
        # The groups come by their first points, rising, so the first with two points has the first four.
        for group in round_groups(one, other, behind):
            if len(group) > 1:
                return (one, other, group[0], group[1])
    return None


def hub(lot):
    """Tell (point, far, how many) of the point from which most others are equally far."""
    need_lot(lot)
    if len(lot) < 2:
        raise NoLot("a lot of two points or more is needed")
    rows = [(point, far, len(ring)) for point in lot for far, ring in rings(lot, point)]
    # Of several with the most, max tells the first: points rise, and the fars of each.
    return max(rows, key=lambda row: row[2])
