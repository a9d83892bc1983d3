"""The points of a board, and the lots of them."""


def board_points(w, h):
    """Tell the rising list of the points of a board, of sides that have been looked at."""
    return [(x, y) for x in range(w) for y in range(h)]


def grown(lots, points):
    """Tell the rising list of the lots with one more of the points, behind all theirs."""
    return [lot + (point,) for lot in lots for point in points if point > lot[-1]]


def lots_of(points, n):
    """Tell the rising list of all lots of n of the points, n from 1 on."""
    lots = [(point,) for point in points]
    for more in range(n - 1):
        lots = grown(lots, points)
    return lots
