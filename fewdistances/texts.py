"""Lots as texts."""

from fewdistances.errors import NoText
from fewdistances.points import is_lot, is_point, need_lot

MOST_FIGURES = 30


def number_in(word):
    """Tell the number of at most thirty figures that a word writes, None where it writes none."""
    figures = word.removeprefix("-")
    if len(figures) > MOST_FIGURES or not figures.isdecimal():
        return None
    number = int(word)
    # What writes a number in another way, with a nought ahead or as -0, does not come back.
    return number if str(number) == word else None


def point_in(word):
    """Tell the point that a word writes, None where it writes none."""
    point = tuple([number_in(part) for part in word.split(",")])
    return point if is_point(point) else None


def shown(lot):
    """Tell the text of a lot."""
    need_lot(lot)
    return " ".join([f"{x},{y}" for x, y in lot])


def read(text):
    """Tell the lot that a text writes."""
    if not isinstance(text, str):
        raise NoText("a text is needed")
    lot = tuple([point_in(word) for word in text.split(" ")])
    if not is_lot(lot):
        raise NoText("the text writes no lot")
    return lot
