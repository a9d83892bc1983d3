"""How often each far comes on a grid, by the differences, not pair by pair."""

from fewdistances.checks import need_within
from fewdistances.sums import sum_ways

MOST_SIDE = 100000
MOST_COUNTED_SIDE = 200


def need_sides(w, h, most):
    """Refuse sides of which one is no whole number from 1 to most."""
    need_within(w, 1, most)
    need_within(h, 1, most)


def pairs_apart(w, h, a, b):
    """Tell how many pairs of points of the grid differ by a, less than w, and by b, less than h, not both 0."""
    # Where neither is 0, a pair may rise or fall from its left point to its right one.
    turns = 2 if a > 0 and b > 0 else 1
    return turns * (w - a) * (h - b)


def grid_often(w, h, number):
    """Tell how many pairs of points of the grid have the number as their far."""
    need_sides(w, h, MOST_SIDE)
    need_within(number, 1, 10 ** 9)
    ways = sum_ways(number)
    both = ways + [(b, a) for a, b in ways if a != b]
    return sum([pairs_apart(w, h, a, b) for a, b in both if a < w and b < h])


def grid_table(w, h):
    """Tell, of each far of the grid, how many pairs have it, of sides that have been looked at."""
    table = {}
    for a in range(w):
        # Only alike points differ by 0 and 0.
        for b in range(1 if a == 0 else 0, h):
            far = a * a + b * b
            table[far] = table.get(far, 0) + pairs_apart(w, h, a, b)
    return table


def many_grid(w, h):
    """Tell how many unlike fars the grid has."""
    need_sides(w, h, MOST_COUNTED_SIDE)
    return len(grid_table(w, h))


def greatest_often(w, h):
    """Tell (far, how many pairs) of the far that most pairs have, None of one point."""
    need_sides(w, h, MOST_COUNTED_SIDE)
    table = sorted(grid_table(w, h).items())
    # Of several with the most, max tells the first: the least far.
    return max(table, key=lambda row: row[1], default=None)
