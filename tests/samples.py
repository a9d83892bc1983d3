"""Samples that several tests share, and slow, plain references."""

from itertools import combinations, permutations

BIG = 10 ** 29
BEYOND = (1001, -1001, BIG, -BIG)

# What is no number, no point and no lot, wherever it is handed in.
ODD_THINGS = (
    None, True, False, "", "0", "0,0", "(0, 0)", [], {}, {"a": 1}, {0: 0, 1: 1},
    [0, 0], [(0, 0)], [[0, 0]], (), ("0", "0"), ("0,0",), (None, None), ((),),
    set(), {0, 1}, frozenset([0]), b"00", 1.0, (0.0, 0.0), object(), int, len,
)

NOT_NUMBERS = ODD_THINGS + ((0, 0), (1,), [1], {1: 1}, ((0, 0),))


def not_within(least, most):
    """What is no number from least to most, wherever it is handed in."""
    return NOT_NUMBERS + (least - 1, least - 2, -most, most + 1, most + 2, BIG, -BIG, 10 ** 30 - 1)


NOT_POINTS = ODD_THINGS + (
    0, 1, BIG, (0,), (0, 0, 0), (True, 0), (0, True), (False, False),
    (0, None), (None, 0), ("0", 0), (0, "0"), ([0], 0), (0, (0,)), (0, {}),
    ((0, 0),), ((0, 0), (1, 1)), {(0, 0): 1},
) + tuple((n, 0) for n in BEYOND) + tuple((0, n) for n in BEYOND)


def row(many):
    """A lot of so many points on a line."""
    return tuple((k, 0) for k in range(many))


NOT_LOTS = ODD_THINGS + (
    0, BIG, (0, 0), (1, 2), row(41), row(50),
    ((0, 0), (0, 0)), ((1, 0), (0, 0)), ((0, 1), (0, 0)), ((0, 0), (1, 0), (1, 0)),
    ((0, 0), (2, 0), (1, 0)), ((0, 0), [1, 0]), ([0, 0],), [(0, 0), (1, 0)],
    ((0, 0), None), (None, (0, 0)), ((0, 0), "1,0"), ((0, 0), (1, 0, 0)),
    ((0, 0), (1,)), ((True, 0),), ((0, 0), (1, True)), ((0, 0), (1, "0")),
    ((0, 0), 1), (((0, 0),),), ((-1001, 0), (0, 0)), ((0, 0), (1001, 0)),
    ((0, 0), (0, 1001)), ((0, -1001), (0, 0)), ((0, 0), (BIG, 0)),
    {(0, 0): (1, 0)}, ({},), ((0, 0), {}),
)

SQUARE = ((0, 0), (0, 1), (1, 0), (1, 1))
CORNERS = ((-1000, -1000), (-1000, 1000), (1000, -1000), (1000, 1000))
BOARD = tuple((x, y) for x in range(5) for y in range(8))


def bent(many, step):
    """A lot that looks scattered, the same each time."""
    some = {((k * k * step) % 37 - 18, (k * step * 7) % 23 - 11) for k in range(many)}
    return tuple(sorted(some))


LOTS = (
    ((0, 0),), ((-1000, 1000),), ((0, 0), (3, 4)), ((0, 0), (1, 0), (3, 0)),
    ((0, 0), (1, 0), (2, 0)), ((0, 0), (0, 2), (1, 1)), SQUARE, CORNERS, BOARD,
    row(40), row(7), ((-5, 2), (-5, 3), (0, 0), (5, -3), (5, 0)),
    ((0, 0), (1, 5), (5, 1), (5, 5), (7, 1)),
    bent(9, 3), bent(14, 5), bent(25, 11), bent(40, 13),
)


def plain_far(one, other):
    return (one[0] - other[0]) ** 2 + (one[1] - other[1]) ** 2


def plain_pairs(lot):
    """The far of each pair of points, one for each pair."""
    return [plain_far(one, other) for one, other in combinations(lot, 2)]


def plain_threes(lot):
    """All even threes, rising."""
    return sorted(
        (p, q, r) for p, q, r in permutations(lot, 3)
        if q < r and plain_far(p, q) == plain_far(p, r)
    )


def plain_board(w, h):
    return sorted((x, y) for x in range(w) for y in range(h))


def plain_unlike(points):
    """Whether no two pairs of the points have the same far."""
    pairs = plain_pairs(points)
    return len(set(pairs)) == len(pairs)


def unlike_forty():
    """An unlike lot of forty points, the same each time."""
    some = []
    k = 0
    while len(some) < 40:
        point = (k * k * 31 % 2001 - 1000, k * k * k * 17 % 1999 - 999)
        if point not in some and plain_unlike(some + [point]):
            some.append(point)
        k += 1
    return tuple(sorted(some))
