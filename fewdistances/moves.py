"""Lots moved, turned and mirrored: none of it changes how far points are."""

from fewdistances.checks import need_number
from fewdistances.points import need_lot, need_point


def moved(lot, across, up):
    """Tell the lot with across put to all first numbers, up to all second ones."""
    need_lot(lot)
    need_number(across)
    need_number(up)
    points = tuple([(x + across, y + up) for x, y in lot])
    for point in points:
        need_point(point)
    return points


def turned_about(lot):
    """Tell the lot with each point (x, y) turned to (-y, x)."""
    need_lot(lot)
    return tuple(sorted([(-y, x) for x, y in lot]))


def mirrored(lot):
    """Tell the lot with each point (x, y) mirrored to (y, x)."""
    need_lot(lot)
    return tuple(sorted([(y, x) for x, y in lot]))
