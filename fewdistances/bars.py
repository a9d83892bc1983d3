"""Bars: how many unlike fars so many points have at least."""

from fewdistances.checks import is_rising, is_within, need_within
from fewdistances.counts import many_fars
from fewdistances.errors import NoFars
from fewdistances.sums import circles_points, on_circle

MOST_LOT = 40
MOST_FARS = 100


def least_where(holds, most):
    """Tell the least number from 0 on for which it holds; it holds for all above it, and for most."""
    low = 0
    high = most
    while low < high:
        middle = (low + high) // 2
        if holds(middle):
            high = middle
        else:
            low = middle + 1
    return low


def many_pairs(n):
    """Tell how many pairs n points have."""
    return n * (n - 1) // 2


def by_hull(n):
    """Tell the least t for which t times t, and t, come to n less 1 together at least."""
    need_within(n, 1, 10 ** 18)
    return least_where(lambda t: t * t + t >= n - 1, 10 ** 9)


def pairs_of_shares(whole, n):
    """Tell how many pairs all shares have together, the whole being shared among n as evenly as can be."""
    share, over = divmod(whole, n)
    # A share of one more has as many pairs more as the share comes to.
    return n * many_pairs(share) + over * share


def pair_bound(n):
    """Tell the greatest e for which twice e, shared among n, has at most n times n less 1 pairs."""
    need_within(n, 1, 10 ** 6)
    # Shares of 2 n each, of twice n times n, have more pairs than that.
    return least_where(lambda e: pairs_of_shares(2 * e, n) > n * (n - 1), n * n) - 1


def by_pairs(n):
    """Tell the least t for which t times pair_bound is half of n times n less 1 at least."""
    bound = pair_bound(n)
    # One point has no pairs, and a bound of 0.
    return 0 if n == 1 else (many_pairs(n) + bound - 1) // bound


def bar(n):
    """Tell the greater of by_hull and by_pairs."""
    need_within(n, 1, 10 ** 6)
    return max(by_hull(n), by_pairs(n))


def spare(lot):
    """Tell how many more unlike fars the lot has than the bar of its points."""
    return many_fars(lot) - bar(len(lot))


def pairs_by_circles(n, points):
    """Tell how many pairs of n points can have a far of whose circle so many whole points are."""
    return n * min(points, n - 1) // 2


def most_by_circles(n, number):
    """Tell the greatest number of pairs of n whole points that can have the far, by circles alone."""
    need_within(n, 1, MOST_LOT)
    return pairs_by_circles(n, on_circle(number))


def are_fars(thing):
    """Tell of anything whether it is a rising tuple of 1 to 100 numbers from 1 to 10 ** 12."""
    if not isinstance(thing, tuple) or not 1 <= len(thing) <= MOST_FARS:
        return False
    # Only numbers are sure to compare, so the order is looked at last.
    return all([is_within(number, 1, 10 ** 12) for number in thing]) and is_rising(thing)


def can_have(n, some):
    """Tell whether the most pairs by circles of all the fars come to the pairs of n points at least."""
    need_within(n, 1, MOST_LOT)
    if not are_fars(some):
        raise NoFars("a rising tuple of fars is needed")
    return sum([pairs_by_circles(n, points) for points in circles_points(some)]) >= many_pairs(n)
