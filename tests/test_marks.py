import copy
import inspect
import unittest
from itertools import combinations

from fewdistances.errors import NoMarks, NoNumber
from fewdistances.marks import are_marks, as_lot, first_twice, gaps, is_even, shortest, shortest_marks, unlike_by
from fewdistances.points import fars, is_lot
from tests.refusing import RefusalCase
from tests.samples import BIG, NOT_NUMBERS, ODD_THINGS, not_within
from tests.soon import soon

MOST_M = 10 ** 6
ONE = (0,)
TWENTY = tuple(range(20))
WIDE = tuple(k * k for k in range(20))
OF_MARKS = (gaps, is_even, first_twice, as_lot)

MARKS = (
    ONE, (0, 1), (0, 7), (0, 1000), (0, 1, 2), (0, 1, 3), (0, 500, 1000), (0, 3, 6, 9), (0, 3, 6, 10),
    (0, 1, 4, 6), (0, 1, 4, 9, 11), (0, 1, 4, 10, 12, 17), (0, 2, 3, 10, 16, 21, 25), (0, 50, 52, 100, 999, 1000),
    TWENTY, tuple(range(0, 1000, 50)), (0,) + tuple(range(982, 1001)), WIDE,
    (0, 1, 3, 7, 15, 31, 63, 127, 255, 511, 1000), (0, 8, 10), (0, 1, 5, 11, 13),
)

NOT_MARKS = ODD_THINGS + (
    0, 1, BIG, (1,), (-1,), (1, 2), (-1, 0), (-1, 0, 1), (5, 6, 7), (BIG,), (0, BIG), (-BIG, 0), (0, -BIG),
    (0, 1001), (0, 1, 1001), (0, 10 ** 30 - 1), (0, 0), (0, 1, 1), (0, 0, 1), (0, 2, 1), (0, -1), (0, 5, 4, 6),
    (False,), (False, 1), (0, True), (0, True, 2), (0, 1, True), (0, None), (None, 0), (0, "1"), ("0", 1),
    (0, (1,)), ((0,),), ((0, 1),), (0, [1]), ([0], 1), (0, {}), [0], [0, 1, 3], [[0, 1]], {0: 1}, {0: 0, 1: 1},
    (0, 1.0), (0.0, 1), "0 1 3", "(0, 1)", ((0, 0), (1, 0)), tuple(range(21)), tuple(range(0, 1050, 50)),
    tuple(range(22)), tuple(range(40)), tuple(range(1, 21)), tuple(reversed(range(5))),
)


def plain_differences(marks):
    """The difference of each two marks, one for each two."""
    return [max(two) - min(two) for two in combinations(marks, 2)]


def plain_unlike(marks):
    told = plain_differences(marks)
    return len(set(told)) == len(told)


def plain_twice(marks):
    """All (a, b, c, d) with the same difference, rising."""
    return sorted(
        (a, b, c, d) for a in marks for b in marks for c in marks for d in marks
        if a < b and c < d and (a, b) < (c, d) and b - a == d - c
    )


def plain_unlike_by(marks, m):
    rests = [(a - b) % m for a in marks for b in marks if a != b]
    return 0 not in rests and len(set(rests)) == len(rests)


def all_marks(n, last):
    """All n marks, rising, none above last."""
    return [(0,) + rest for rest in combinations(range(1, last + 1), n - 1)]


class AreMarksTest(RefusalCase):

    def test_ordinary(self):
        for marks in MARKS:
            self.assertIs(are_marks(marks), True, marks)

    def test_how_many(self):
        self.assertIs(are_marks(()), False)
        self.assertIs(are_marks((0,)), True)
        self.assertIs(are_marks((0, 1)), True)
        self.assertIs(are_marks(TWENTY), True)
        self.assertIs(are_marks(tuple(range(21))), False)

    def test_how_great(self):
        self.assertIs(are_marks((0, 1000)), True)
        self.assertIs(are_marks((0, 1001)), False)
        self.assertIs(are_marks((0, 999, 1000)), True)
        self.assertIs(are_marks((0, 1000, 1001)), False)

    def test_the_first_one_is_nought(self):
        for first in (1, -1, 2, 1000, -1000, BIG, -BIG):
            self.assertIs(are_marks((first,)), False)
            self.assertIs(are_marks((first, first + 1)), False)
        self.assertIs(are_marks((-1, 0)), False)

    def test_of_anything(self):
        for thing in NOT_MARKS:
            self.assertIs(are_marks(thing), False, thing)
        deep = 0
        for time in range(9):
            deep = (deep,)
        self.assertIs(are_marks(deep), False)
        self.assertIs(are_marks((0, deep)), False)


class GapsTest(RefusalCase):

    def test_ordinary(self):
        self.assertEqual(gaps((0, 1, 3)), [1, 2, 3])
        self.assertEqual(gaps((0, 1, 2)), [1, 2])
        self.assertEqual(gaps((0, 7)), [7])
        self.assertEqual(gaps((0, 1, 4, 6)), [1, 2, 3, 4, 5, 6])
        self.assertEqual(gaps((0, 500, 1000)), [500, 1000])

    def test_edges(self):
        self.assertEqual(gaps(ONE), [])
        self.assertEqual(gaps(TWENTY), list(range(1, 20)))
        self.assertEqual(gaps((0, 1000)), [1000])

    def test_held_against_all_differences(self):
        for marks in MARKS:
            self.assertEqual(gaps(marks), sorted(set(plain_differences(marks))))

    def test_kinds_told(self):
        for marks in MARKS:
            told = gaps(marks)
            self.assertIs(type(told), list)
            self.assertTrue(all(type(gap) is int for gap in told))


class IsEvenTest(RefusalCase):

    def test_ordinary(self):
        self.assertIs(is_even((0, 3, 6, 9)), True)
        self.assertIs(is_even((0, 3, 6, 10)), False)
        self.assertIs(is_even((0, 1, 3)), False)
        self.assertIs(is_even((0, 2, 3, 5)), False)
        self.assertIs(is_even((0, 500, 1000)), True)
        self.assertIs(is_even((0, 1, 2, 3, 5)), False)
        self.assertIs(is_even((0, 2, 3, 4, 5)), False)

    def test_edges(self):
        for marks in (ONE, (0, 1), (0, 1000), (0, 7), TWENTY, tuple(range(0, 1000, 50)), tuple(range(0, 1000, 52))):
            self.assertIs(is_even(marks), True)

    def test_held_against_all_marks(self):
        for n in range(1, 6):
            for marks in all_marks(n, 10):
                steps = {marks[at + 1] - marks[at] for at in range(n - 1)}
                self.assertIs(is_even(marks), len(steps) < 2)

    def test_so_many_gaps_just_where_they_are_even(self):
        for n in range(1, 6):
            for marks in all_marks(n, 10):
                self.assertGreaterEqual(len(gaps(marks)), n - 1)
                self.assertIs(is_even(marks), len(gaps(marks)) == n - 1)
        for marks in MARKS:
            self.assertIs(is_even(marks), len(gaps(marks)) == len(marks) - 1)


class FirstTwiceTest(RefusalCase):

    def test_ordinary(self):
        self.assertEqual(first_twice((0, 1, 2)), (0, 1, 1, 2))
        self.assertEqual(first_twice((0, 1, 5, 6)), (0, 1, 5, 6))
        self.assertEqual(first_twice((0, 2, 3, 5)), (0, 2, 3, 5))
        self.assertEqual(first_twice((0, 3, 6, 9)), (0, 3, 3, 6))

    def test_the_two_may_share_a_mark(self):
        self.assertEqual(first_twice((0, 500, 1000)), (0, 500, 500, 1000))
        self.assertEqual(first_twice((0, 1, 4, 7)), (1, 4, 4, 7))

    def test_it_goes_by_marks_not_by_gaps(self):
        # The gap 1 comes twice, too, but later on.
        self.assertEqual(first_twice((0, 5, 20, 21, 25, 26)), (0, 5, 20, 25))
        self.assertEqual(first_twice((0, 100, 201, 203, 301, 303)), (0, 100, 201, 301))

    def test_none_where_no_gap_comes_twice(self):
        for marks in (ONE, (0, 1), (0, 1000), (0, 1, 3), (0, 1, 4, 6), (0, 2, 3, 10, 16, 21, 25)):
            self.assertIsNone(first_twice(marks))

    def test_held_against_all_marks(self):
        for n in range(1, 6):
            for marks in all_marks(n, 9):
                some = plain_twice(marks)
                self.assertEqual(first_twice(marks), some[0] if some else None, marks)
        for marks in MARKS:
            if len(marks) < 12:
                some = plain_twice(marks)
                self.assertEqual(first_twice(marks), some[0] if some else None, marks)

    def test_twenty_marks(self):
        self.assertEqual(first_twice(TWENTY), (0, 1, 1, 2))
        self.assertEqual(first_twice(WIDE), plain_twice(WIDE)[0])

    def test_kinds_told(self):
        told = first_twice(TWENTY)
        self.assertEqual([type(told)] + [type(mark) for mark in told], [tuple, int, int, int, int])


class ShortestTest(RefusalCase):

    def test_as_the_document_tells(self):
        self.assertEqual([shortest(n) for n in range(1, 7)], [0, 1, 3, 6, 11, 17])

    def test_ordinary(self):
        self.assertEqual(shortest_marks(1), [(0,)])
        self.assertEqual(shortest_marks(2), [(0, 1)])
        self.assertEqual(shortest_marks(3), [(0, 1, 3), (0, 2, 3)])
        self.assertEqual(shortest_marks(4), [(0, 1, 4, 6), (0, 2, 5, 6)])
        self.assertEqual(shortest_marks(5),
                         [(0, 1, 4, 9, 11), (0, 2, 7, 8, 11), (0, 2, 7, 10, 11), (0, 3, 4, 9, 11)])
        self.assertEqual(len(shortest_marks(6)), 8)

    def test_held_against_all_marks(self):
        for n in range(1, 7):
            last = 0
            while not [marks for marks in all_marks(n, last) if plain_unlike(marks)]:
                last += 1
            self.assertEqual(shortest(n), last)
            self.assertEqual(shortest_marks(n), [marks for marks in all_marks(n, last) if plain_unlike(marks)])

    def test_what_follows(self):
        for n in range(1, 7):
            told = shortest_marks(n)
            self.assertIs(type(told), list)
            self.assertIs(type(shortest(n)), int)
            self.assertEqual(told, sorted(set(told)))
            for marks in told:
                self.assertIs(are_marks(marks), True)
                self.assertEqual((len(marks), marks[-1]), (n, shortest(n)))
                self.assertIsNone(first_twice(marks))
                # Seen from the other end they are as short.
                self.assertIn(tuple(marks[-1] - mark for mark in reversed(marks)), told)

    def test_edges(self):
        for action in (shortest, shortest_marks):
            for n in (0, 7):
                self.assert_refused(NoNumber, action, n)

    def test_refusals(self):
        for action in (shortest, shortest_marks):
            for thing in not_within(1, 6):
                self.assert_refused(NoNumber, action, thing)

    def test_they_come_soon(self):
        with soon(10):
            for time in range(5):
                shortest(6)
                shortest_marks(6)


class UnlikeByTest(RefusalCase):

    def test_ordinary(self):
        self.assertIs(unlike_by((0, 1, 3), 7), True)
        self.assertIs(unlike_by((0, 1, 3), 6), False)
        self.assertIs(unlike_by((0, 1, 3), 8), True)
        self.assertIs(unlike_by((0, 1, 4, 6), 13), True)
        self.assertIs(unlike_by((0, 1, 3, 9), 13), True)
        self.assertIs(unlike_by((0, 1, 4, 6), 12), False)
        self.assertIs(unlike_by((0, 1, 2), 1000), False)

    def test_taken_both_ways(self):
        # 3 and -3 leave the same rest by 6.
        self.assertIs(unlike_by((0, 3), 6), False)
        self.assertIs(unlike_by((0, 3), 7), True)
        # 1 and -4 leave the same rest by 5.
        self.assertIs(unlike_by((0, 1, 4), 5), False)

    def test_one_mark(self):
        for m in (1, 2, 7, MOST_M):
            self.assertIs(unlike_by(ONE, m), True)

    def test_a_difference_that_m_divides(self):
        for marks, m in (((0, 7), 7), ((0, 14), 7), ((0, 1, 8), 7), ((0, 1000), 1000), ((0, 1000), 1), ((0, 6), 3)):
            self.assertIs(unlike_by(marks, m), False)

    def test_m_less_than_the_last_mark(self):
        self.assertIs(unlike_by((0, 8, 10), 7), True)
        self.assertIs(unlike_by((0, 8, 9), 7), False)
        self.assertIs(unlike_by((0, 1000), 3), True)
        self.assertIs(unlike_by((0, 1000), 999), True)

    def test_edges(self):
        for marks in MARKS[1:]:
            self.assertIs(unlike_by(marks, 1), False)
            self.assertIs(unlike_by(marks, 2), False)
            # So great an m changes no difference, and no two of both ways meet.
            self.assertIs(unlike_by(marks, MOST_M), plain_unlike(marks))
        for m in (0, MOST_M + 1):
            self.assert_refused(NoNumber, unlike_by, (0, 1, 3), m)

    def test_held_against_all_differences(self):
        for n in range(1, 5):
            for marks in all_marks(n, 9):
                for m in range(1, 22):
                    self.assertIs(unlike_by(marks, m), plain_unlike_by(marks, m), (marks, m))
        for marks in MARKS:
            for m in list(range(1, 60)) + [997, 1000, 1001, 1999, 2000, 2001, MOST_M]:
                self.assertIs(unlike_by(marks, m), plain_unlike_by(marks, m), (marks, m))

    def test_so_they_are_unlike_and_m_is_great_enough(self):
        some = 0
        for n in range(1, 6):
            for marks in all_marks(n, 13):
                for m in range(1, 24):
                    if unlike_by(marks, m):
                        some += 1
                        self.assertIsNone(first_twice(marks))
                        self.assertGreaterEqual(m, n * (n - 1) + 1)
        self.assertGreater(some, 100)

    def test_the_least_m_is_reached(self):
        for marks, m in ((ONE, 1), ((0, 1), 3), ((0, 1, 3), 7), ((0, 1, 3, 9), 13), ((0, 1, 4, 14, 16), 21),
                         ((0, 1, 3, 8, 12, 18), 31)):
            self.assertEqual(m, len(marks) * (len(marks) - 1) + 1)
            self.assertIs(unlike_by(marks, m), True)

    def test_refusals_at_each_place(self):
        for thing in NOT_MARKS:
            self.assert_refused(NoMarks, unlike_by, thing, 7)
        for thing in not_within(1, MOST_M):
            self.assert_refused(NoNumber, unlike_by, (0, 1, 3), thing)
            self.assert_refused(NoNumber, unlike_by, ONE, thing)

    def test_the_left_one_is_refused_first(self):
        for thing in NOT_MARKS:
            for other in (None, True, "7", 0, MOST_M + 1, BIG, [7], thing):
                self.assert_refused(NoMarks, unlike_by, thing, other)


class AsLotTest(RefusalCase):

    def test_ordinary(self):
        self.assertEqual(as_lot((0, 1, 3)), ((0, 0), (1, 0), (3, 0)))
        self.assertEqual(as_lot(ONE), ((0, 0),))
        self.assertEqual(as_lot((0, 1000)), ((0, 0), (1000, 0)))

    def test_its_fars_are_the_squares_of_the_gaps(self):
        for marks in MARKS:
            told = as_lot(marks)
            self.assertIs(is_lot(told), True)
            self.assertEqual(told, tuple((mark, 0) for mark in marks))
            self.assertEqual(fars(told), [gap * gap for gap in gaps(marks)])


class OfMarksTest(RefusalCase):

    def test_refusals(self):
        for action in OF_MARKS:
            for thing in NOT_MARKS:
                self.assert_refused(NoMarks, action, thing)

    def test_arguments_stand_as_the_interface_says(self):
        for action in OF_MARKS:
            self.assertEqual(list(inspect.signature(action).parameters), ["marks"])
        for action, names in ((are_marks, ["thing"]), (shortest, ["n"]), (shortest_marks, ["n"]),
                              (unlike_by, ["marks", "m"])):
            self.assertEqual(list(inspect.signature(action).parameters), names)


class OwnTest(unittest.TestCase):

    def test_lists_told_are_the_askers_own(self):
        for action, things in ((gaps, MARKS), (shortest_marks, range(1, 7))):
            for thing in things:
                first = action(thing)
                kept = list(first)
                first.append("mine")
                first.reverse()
                self.assertEqual(action(thing), kept)
                first.clear()
                self.assertEqual(action(thing), kept)
        self.assertEqual([shortest(n) for n in range(1, 7)], [0, 1, 3, 6, 11, 17])

    def test_the_same_question_has_the_same_answer(self):
        kept = [[action(marks) for action in OF_MARKS] for marks in MARKS]
        for marks in MARKS:
            gaps(marks).clear()
            with self.assertRaises(NoNumber):
                unlike_by(marks, 0)
        self.assertEqual([[action(marks) for action in OF_MARKS] for marks in MARKS], kept)

    def test_what_is_handed_in_stays_as_it_was(self):
        for thing in ([0, 1, 3], [2, 1], [[0], [1]], {"a": [1]}, (0, [1], {"b": 2})):
            kept = copy.deepcopy(thing)
            self.assertIs(are_marks(thing), False)
            for action in OF_MARKS + (lambda some: unlike_by(some, 7),):
                with self.assertRaises(NoMarks):
                    action(thing)
            for action in (shortest, shortest_marks, lambda some: unlike_by((0, 1), some)):
                with self.assertRaises(NoNumber):
                    action(thing)
            self.assertEqual(thing, kept)

    def test_what_is_no_number_is_no_mark(self):
        for thing in NOT_NUMBERS:
            self.assertIs(are_marks((0, thing)), False)
            self.assertIs(are_marks((thing,)), False)


if __name__ == "__main__":
    unittest.main()
