"""Lots of two fars, and squares."""

from fewdistances.boards import board_points, grown
from fewdistances.checks import need_within
from fewdistances.errors import NoPoint
from fewdistances.points import far_table, need_point, pairs_by_far

MOST_SIDE = 5
LEAST_POINTS = 2
MOST_POINTS = 5


def two_lots(w, h, n):
    """Tell the rising list of the lots of n points of the board that have at most two unlike fars."""
    need_within(w, 1, MOST_SIDE)
    need_within(h, 1, MOST_SIDE)
    need_within(n, LEAST_POINTS, MOST_POINTS)
    points = board_points(w, h)
    lots = [(point,) for point in points]
    # A lot without its last point has no more fars, so none is lost on the way.
    for more in range(n - 1):
        lots = [lot for lot in grown(lots, points) if len(pairs_by_far(lot)) <= 2]
    return lots


def is_square(lot):
    """Tell whether the lot is the four corners of a square."""
    table = far_table(lot)
    if len(lot) != 4:
        return False
    side = table[0][0]
    # Of four points only a square has four like sides and both ways across twice as far, by squares.
    return table == [(side, 4), (2 * side, 2)]


def many_squares(w, h):
    """Tell how many lots of the grid's points are the corners of a square, upright or not."""
    need_within(w, 1, 10 ** 6)
    need_within(h, 1, 10 ** 6)
    last = min(w, h) - 1
    # The sums of k, of its square and of its cube, for k up to the last.
    plain = last * (last + 1) // 2
    squares = last * (last + 1) * (2 * last + 1) // 6
    cubes = plain * plain
    return w * h * plain - (w + h) * squares + cubes


def square_at(one, other):
    """Tell the corners of the square to the left of the way from one to other."""
    need_point(one)
    need_point(other)
    if one == other:
        raise NoPoint("two unlike points are needed")
    across = other[0] - one[0]
    up = other[1] - one[1]
    corners = [one, other, (one[0] - up, one[1] + across), (other[0] - up, other[1] + across)]
    for corner in corners:
        need_point(corner)
    return tuple(sorted(corners))
