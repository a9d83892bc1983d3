"""Lots in which no far comes twice."""

from fewdistances.boards import board_points, grown
from fewdistances.checks import need_within
from fewdistances.errors import Alike
from fewdistances.points import far_between, is_point, need_lot, need_point, pairs_by_far

MOST_SIDE = 4
MOST_FILLED_SIDE = 12


def is_likeness(lot, thing):
    """Tell of anything whether it is a likeness of the lot."""
    need_lot(lot)
    if not isinstance(thing, tuple) or len(thing) != 4:
        return False
    # (True, 0) is equal to (1, 0) but no point, so being in the lot is not enough.
    if not all([is_point(point) and point in lot for point in thing]):
        return False
    a, b, c, d = thing
    return a < b and c < d and (a, b) < (c, d) and far_between(a, b) == far_between(c, d)


def first_like(lot):
    """Tell the first likeness of the lot, None where it is unlike."""
    need_lot(lot)
    # The lists come by their first pairs, rising, so the first with two pairs has the first likeness.
    for pairs in pairs_by_far(lot).values():
        if len(pairs) > 1:
            return pairs[0] + pairs[1]
    return None


def need_unlike(lot):
    """Refuse what is no lot, and a lot that is not unlike."""
    like = first_like(lot)
    if like is not None:
        one, two, three, four = like
        raise Alike(one, two, three, four)


def are_unlike(points):
    """Tell of points that have been looked at whether no two pairs have the same far."""
    return all([len(pairs) == 1 for pairs in pairs_by_far(points).values()])


def fits(lot, point):
    """Tell whether the point is not in the unlike lot, and the lot with it is unlike."""
    need_unlike(lot)
    need_point(point)
    return point not in lot and are_unlike(lot + (point,))


def filled(w, h):
    """Tell the lot of the points of the board that fit, each put to those that came."""
    need_within(w, 1, MOST_FILLED_SIDE)
    need_within(h, 1, MOST_FILLED_SIDE)
    lot = ()
    for point in board_points(w, h):
        if are_unlike(lot + (point,)):
            lot += (point,)
    return lot


def most_unlike(w, h):
    """Tell the greatest number of points of an unlike lot of the board."""
    return len(unlike_lots(w, h)[0])


def unlike_lots(w, h):
    """Tell the rising list of all unlike lots of the board that have the most points."""
    need_within(w, 1, MOST_SIDE)
    need_within(h, 1, MOST_SIDE)
    points = board_points(w, h)
    lots = []
    larger = [(point,) for point in points]
    # An unlike lot without its last point is unlike, so all of one more point come of those at hand.
    while larger:
        lots = larger
        larger = [lot for lot in grown(lots, points) if are_unlike(lot)]
    return lots
