"""Marks on a line, and their differences."""

from fewdistances.checks import is_rising, is_whole, need_within
from fewdistances.errors import NoMarks
from fewdistances.unlike import first_like

MOST_MARKS = 20
MOST_MARK = 1000
MOST_SHORTEST = 6


def are_marks(thing):
    """Tell of anything whether it is marks."""
    if not isinstance(thing, tuple) or not 1 <= len(thing) <= MOST_MARKS:
        return False
    # Only numbers are sure to compare, so the order is looked at behind them.
    if not all([is_whole(mark) for mark in thing]) or not is_rising(thing):
        return False
    return thing[0] == 0 and thing[-1] <= MOST_MARK


def need_marks(thing):
    """Refuse what is no marks."""
    if not are_marks(thing):
        raise NoMarks("marks are needed")


def differences(marks):
    """Tell the lesser taken from the greater of each two marks that have been looked at."""
    return [other - one for at, one in enumerate(marks) for other in marks[at + 1:]]


def are_all_unlike(numbers):
    """Tell whether no number of a list stands in it twice."""
    return len(set(numbers)) == len(numbers)


def gaps(marks):
    """Tell the rising list of the differences of two marks, each once."""
    need_marks(marks)
    return sorted(set(differences(marks)))


def is_even(marks):
    """Tell whether each mark is as much greater than the one ahead as the next one is than it."""
    need_marks(marks)
    return len({other - one for one, other in zip(marks, marks[1:])}) <= 1


def first_twice(marks):
    """Tell the first (a, b, c, d) of marks with the same difference, None where they are unlike."""
    # As points of a line they rise as the marks do, and have the same far just where the gap is the same.
    like = first_like(as_lot(marks))
    return None if like is None else tuple([mark for mark, up in like])


def unlike_up_to(n, last):
    """Tell the rising list of all n unlike marks, none of them above last."""
    rows = [(0,)]
    for more in range(n - 1):
        longer = [row + (mark,) for row in rows for mark in range(row[-1] + 1, last + 1)]
        # Unlike marks without the last one are unlike, so no longer ones are lost.
        rows = [row for row in longer if are_all_unlike(differences(row))]
    return rows


def shortest_marks(n):
    """Tell the rising list of all n unlike marks that have the least last mark."""
    need_within(n, 1, MOST_SHORTEST)
    # So many pairs have so many unlike gaps, and the last mark is the greatest of these.
    last = n * (n - 1) // 2
    rows = unlike_up_to(n, last)
    while not rows:
        last += 1
        rows = unlike_up_to(n, last)
    return rows


def shortest(n):
    """Tell the least last mark of n unlike marks."""
    return shortest_marks(n)[0][-1]


def unlike_by(marks, m):
    """Tell whether the differences, taken both ways, leave rests by m that are all unlike, none 0."""
    need_marks(marks)
    need_within(m, 1, 10 ** 6)
    rests = [(one - other) % m for one in marks for other in marks if one != other]
    return 0 not in rests and are_all_unlike(rests)


def as_lot(marks):
    """Tell the lot of the points (mark, 0)."""
    need_marks(marks)
    return tuple([(mark, 0) for mark in marks])
