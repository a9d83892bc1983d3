"""The lots on small boards that have the fewest fars, and the most."""

from fewdistances.boards import board_points, lots_of
from fewdistances.checks import need_within
from fewdistances.points import pairs_by_far

MOST_SIDE = 4
MOST_POINTS = 6


def lots_by_fars(w, h, n):
    """Tell, of each number of unlike fars, the rising list of the lots of n points that have so many."""
    need_within(w, 1, MOST_SIDE)
    need_within(h, 1, MOST_SIDE)
    need_within(n, 1, min(MOST_POINTS, w * h))
    groups = {}
    for lot in lots_of(board_points(w, h), n):
        groups.setdefault(len(pairs_by_far(lot)), []).append(lot)
    return groups


def fewest(w, h, n):
    """Tell the least number of unlike fars of a lot of n points of the board."""
    return min(lots_by_fars(w, h, n))


def few_lots(w, h, n):
    """Tell the rising list of the lots of n points that have the fewest fars."""
    groups = lots_by_fars(w, h, n)
    return groups[min(groups)]


def first_few(w, h, n):
    """Tell the first lot of n points that has the fewest fars."""
    return few_lots(w, h, n)[0]


def most_fars(w, h, n):
    """Tell the greatest number of unlike fars of a lot of n points of the board."""
    return max(lots_by_fars(w, h, n))


def lots_of_most(w, h, n):
    """Tell the rising list of the lots of n points that have the most fars."""
    groups = lots_by_fars(w, h, n)
    return groups[max(groups)]


def many_lots(w, h, n):
    """Tell how many lots of n points have the most fars."""
    return len(lots_of_most(w, h, n))


def first_many(w, h, n):
    """Tell the first lot of n points that has the most fars."""
    return lots_of_most(w, h, n)[0]
