import copy
import inspect
import unittest
from fractions import Fraction
from itertools import combinations, permutations
from math import gcd, isqrt

from fewdistances.circles import circle, first_round, hub, is_round, round_fours, round_of
from fewdistances.counts import from_point
from fewdistances.errors import NoCircle, NoLot, NoNumber, NoPoint
from fewdistances.points import is_lot
from fewdistances.sums import on_circle
from tests.refusing import RefusalCase
from tests.samples import (
    BEYOND, BIG, BOARD, CORNERS, LOTS, NOT_LOTS, NOT_POINTS, SQUARE, bent, not_within, plain_far, row,
)
from tests.soon import soon

MOST = 10 ** 6
ONE = ((4, -4),)
TWO = ((0, 0), (3, 4))
OF_LOTS = (is_round, round_fours, first_round, hub)
# 5525 is a sum of two squares in 48 ways, both signs and both orders counted.
RING = tuple(circle(5525))
FORTY = RING[:40]
SOME_POINTS = (
    (0, 0), (1, 0), (0, 1), (1, 1), (2, 1), (-3, 2), (5, -7), (-4, -4), (10, 3), (0, -9), (6, 6),
    (-1000, -1000), (1000, 1000), (-1000, 1000), (1000, -1000), (999, -1000), (-1, 1000), (317, -211),
)


def plain_circle(number):
    top = isqrt(number)
    return [(x, y) for x in range(-top, top + 1) for y in range(-top, top + 1) if x * x + y * y == number]


def on_line(one, two, three):
    return (two[0] - one[0]) * (three[1] - one[1]) == (two[1] - one[1]) * (three[0] - one[0])


def plain_middle(one, two, three):
    """The point where the lines meet that halve the ways from one to two and from one to three."""
    a, b = Fraction(two[0] - one[0]), Fraction(two[1] - one[1])
    c, d = Fraction(three[0] - one[0]), Fraction(three[1] - one[1])
    e = (two[0] ** 2 + two[1] ** 2 - one[0] ** 2 - one[1] ** 2) / Fraction(2)
    f = (three[0] ** 2 + three[1] ** 2 - one[0] ** 2 - one[1] ** 2) / Fraction(2)
    return (e * d - b * f) / (a * d - b * c), (a * f - e * c) / (a * d - b * c)


def plain_round(points):
    """Whether all points lie on one circle, by its middle."""
    if len(points) < 3:
        return True
    if on_line(*points[:3]):
        return False
    middle = plain_middle(*points[:3])
    return len({plain_far(middle, point) for point in points}) == 1


def plain_fours(lot):
    return [four for four in combinations(lot, 4) if plain_round(four)]


def plain_hub(lot):
    rows = []
    for point in lot:
        fars = [plain_far(point, other) for other in lot if other != point]
        rows += [(-fars.count(far), point, far) for far in fars]
    many, point, far = min(rows)
    return (point, far, -many)


class CircleTest(RefusalCase):

    def test_ordinary(self):
        self.assertEqual(circle(2), [(-1, -1), (-1, 1), (1, -1), (1, 1)])
        self.assertEqual(circle(3), [])
        self.assertEqual(circle(4), [(-2, 0), (0, -2), (0, 2), (2, 0)])
        self.assertEqual(circle(5), [(-2, -1), (-2, 1), (-1, -2), (-1, 2), (1, -2), (1, 2), (2, -1), (2, 1)])
        self.assertEqual(len(circle(25)), 12)

    def test_edges(self):
        self.assertEqual(circle(0), [(0, 0)])
        self.assertEqual(circle(1), [(-1, 0), (0, -1), (0, 1), (1, 0)])
        self.assertEqual(circle(MOST)[0], (-1000, 0))
        self.assertEqual(len(circle(MOST)), 28)
        self.assert_refused(NoNumber, circle, MOST + 1)
        self.assert_refused(NoNumber, circle, -1)

    def test_held_against_all_points(self):
        for number in range(300):
            self.assertEqual(circle(number), plain_circle(number), number)

    def test_great_numbers(self):
        for number in (MOST, MOST - 1, MOST - 4, 5525, 160225, 801125, 999 ** 2, 2 * 707 ** 2):
            wanted = []
            for x in range(-1000, 1001):
                rest = number - x * x
                if rest >= 0 and isqrt(rest) ** 2 == rest:
                    wanted += [(x, y) for y in sorted({-isqrt(rest), isqrt(rest)})]
            self.assertEqual(circle(number), wanted, number)

    def test_so_many_as_on_circle_but_for_nought(self):
        for number in list(range(1, 3000)) + list(range(MOST - 300, MOST + 1)):
            self.assertEqual(len(circle(number)), on_circle(number), number)
        self.assertEqual(len(circle(0)), 1)

    def test_kinds_told(self):
        for number in (0, 1, 3, 50):
            told = circle(number)
            self.assertIs(type(told), list)
            self.assertEqual(told, sorted(set(told)))
            for point in told:
                self.assertEqual([type(point)] + [type(side) for side in point], [tuple, int, int])

    def test_refusals(self):
        for thing in not_within(0, MOST):
            self.assert_refused(NoNumber, circle, thing)

    def test_it_comes_soon(self):
        with soon(10):
            for time in range(100):
                circle(MOST)


class RoundOfTest(RefusalCase):

    def test_ordinary(self):
        self.assertEqual(round_of((0, 0), (2, 0), (0, 2)), ((1, 1), (1, 1), (2, 1)))
        self.assertEqual(round_of((0, 0), (1, 0), (0, 1)), ((1, 2), (1, 2), (1, 2)))
        self.assertEqual(round_of((5, 0), (-5, 0), (3, 4)), ((0, 1), (0, 1), (25, 1)))
        self.assertEqual(round_of((0, 0), (3, 0), (0, 5)), ((3, 2), (5, 2), (17, 2)))

    def test_tops_below_nought(self):
        self.assertEqual(round_of((0, 0), (-1, 0), (0, -1)), ((-1, 2), (-1, 2), (1, 2)))
        self.assertEqual(round_of((-4, -1), (-3, -1), (-4, -4)), ((-7, 2), (-5, 2), (5, 2)))

    def test_fractions_are_taken_to_their_least_numbers(self):
        # By crossed differences these come over 72, 72 and 72 times 72.
        self.assertEqual(round_of((0, 0), (6, 0), (0, 6)), ((3, 1), (3, 1), (18, 1)))
        self.assertEqual(round_of((0, 0), (4, 0), (2, 6)), ((2, 1), (8, 3), (100, 9)))
        for x, y, far in (round_of(*three) for three in combinations(SOME_POINTS, 3) if not on_line(*three)):
            for top, bottom in (x, y, far):
                self.assertGreaterEqual(bottom, 1)
                self.assertEqual(gcd(top, bottom), 1)

    def test_as_far_from_each_of_the_three(self):
        for three in combinations(SOME_POINTS, 3):
            if not on_line(*three):
                x, y, far = [Fraction(*told) for told in round_of(*three)]
                self.assertEqual((x, y), plain_middle(*three))
                for point in three:
                    self.assertEqual(plain_far((x, y), point), far)

    def test_all_points_of_a_small_board(self):
        points = [(x, y) for x in range(-1, 3) for y in range(-2, 2)]
        for three in permutations(points, 3):
            if on_line(*three):
                self.assert_refused(NoCircle, round_of, *three)
            else:
                x, y, far = [Fraction(*told) for told in round_of(*three)]
                self.assertEqual({plain_far((x, y), point) for point in three}, {far})

    def test_in_whatever_order(self):
        for three in (((0, 0), (4, 0), (2, 6)), ((-1000, -1000), (1000, 999), (999, -1000)), ((1, 2), (3, 5), (-7, 4))):
            told = {round_of(*some) for some in permutations(three)}
            self.assertEqual(len(told), 1)

    def test_points_at_both_bounds(self):
        self.assertEqual(round_of(*CORNERS[:3]), ((0, 1), (0, 1), (2000000, 1)))
        # Three points nearly on one line lie on a very great circle.
        x, y, far = round_of((-1000, -1000), (0, 1), (1000, 1000))
        self.assertEqual({plain_far((Fraction(*x), Fraction(*y)), point) for point in ((-1000, -1000), (0, 1))},
                         {Fraction(*far)})
        self.assertEqual((x, y, far), ((1999999, 2), (-1999999, 2), (4000000000001, 2)))

    def test_three_on_one_line(self):
        for three in (((0, 0), (1, 1), (2, 2)), ((0, 0), (2, 1), (4, 2)), ((0, 5), (0, -5), (0, 1000)),
                      ((3, 7), (-3, 7), (0, 7)), ((-1000, -1000), (0, 0), (1000, 1000)), ((1, 2), (4, 4), (-2, 0))):
            for some in permutations(three):
                self.assert_refused(NoCircle, round_of, *some)

    def test_two_or_three_alike(self):
        for one, other in (((0, 0), (1, 2)), ((1000, 1000), (-1000, 3))):
            for some in ((one, one, other), (one, other, one), (other, one, one), (one, one, one)):
                self.assert_refused(NoCircle, round_of, *some)

    def test_kinds_told(self):
        for three in (((0, 0), (2, 0), (0, 2)), ((0, 0), (1, 0), (0, 1)), ((0, 0), (-1, 0), (0, -3))):
            told = round_of(*three)
            self.assertEqual((type(told), len(told)), (tuple, 3))
            for some in told:
                self.assertEqual([type(some), len(some), type(some[0]), type(some[1])], [tuple, 2, int, int])

    def test_refusals_at_each_place(self):
        for thing in NOT_POINTS:
            self.assert_refused(NoPoint, round_of, thing, (1, 0), (0, 1))
            self.assert_refused(NoPoint, round_of, (0, 0), thing, (0, 1))
            self.assert_refused(NoPoint, round_of, (0, 0), (1, 0), thing)
            self.assert_refused(NoPoint, round_of, thing, thing, thing)

    def test_no_circle_comes_behind_the_points(self):
        for thing in NOT_POINTS:
            for some in ((thing, (0, 0), (0, 0)), ((0, 0), thing, (0, 0)), ((0, 0), (0, 0), thing)):
                self.assert_refused(NoPoint, round_of, *some)
        for number in BEYOND:
            self.assert_refused(NoPoint, round_of, (0, 0), (1, 0), (number, 0))

    def test_what_equals_a_point_but_is_none(self):
        for thing in ((True, 0), (1, False), [1, 0], (1.0, 0.0)):
            self.assert_refused(NoPoint, round_of, (0, 0), (0, 1), thing)


class IsRoundTest(RefusalCase):

    def test_one_and_two_points_always(self):
        for lot in (ONE, TWO, ((-1000, -1000), (1000, 1000)), ((0, 0), (0, 1)), ((0, 0),)):
            self.assertIs(is_round(lot), True)

    def test_three_points(self):
        self.assertIs(is_round(((0, 0), (0, 1), (1, 0))), True)
        self.assertIs(is_round(((0, 0), (1, 0), (2, 0))), False)
        self.assertIs(is_round(((0, 0), (0, 1), (0, 3))), False)
        self.assertIs(is_round(((0, 0), (2, 1), (4, 2))), False)
        self.assertIs(is_round(((-1000, -1000), (0, 1), (1000, 1000))), True)

    def test_four_points(self):
        self.assertIs(is_round(SQUARE), True)
        self.assertIs(is_round(CORNERS), True)
        self.assertIs(is_round(((0, 0), (0, 2), (5, 0), (5, 2))), True)
        # A long slanting one with four like sides.
        self.assertIs(is_round(((0, 0), (1, 2), (2, 1), (3, 3))), False)
        self.assertIs(is_round(((0, 0), (0, 3), (1, 1), (3, 0))), False)
        # Even sides lie on one circle, others of four points do not.
        self.assertIs(is_round(((0, 0), (1, 1), (2, 1), (3, 0))), True)

    def test_the_line_may_lie_anywhere_in_the_lot(self):
        self.assertIs(is_round(((0, 0), (0, 1), (0, 2), (1, 0))), False)
        self.assertIs(is_round(((0, 0), (0, 2), (1, 0), (2, 0))), False)
        self.assertIs(is_round(((-5, 0), (0, -5), (0, 0), (0, 5))), False)
        self.assertIs(is_round(row(40)), False)

    def test_the_one_point_outside_may_be_any(self):
        for at in range(len(FORTY)):
            lot = tuple(sorted(FORTY[:at] + FORTY[at + 1:] + ((0, 0),)))
            self.assertIs(is_round(lot), False)

    def test_within_the_circle_and_beyond_it(self):
        ring = ((-5, 0), (0, -5), (0, 5))
        self.assertIs(is_round(ring + ((5, 0),)), True)
        self.assertIs(is_round(ring + ((4, 3),)), True)
        self.assertIs(is_round(ring + ((4, 2),)), False)
        self.assertIs(is_round(ring + ((6, 0),)), False)
        # From both sides of the line of two of them the angles come to a half turn together.
        self.assertIs(is_round(((-4, -3), (-4, 3), (0, 5), (3, -4))), True)
        self.assertIs(is_round(((-5, 0), (-4, -3), (-4, 3), (5, 0))), True)

    def test_a_point_mirrored_at_the_line_of_two(self):
        # It sees them at the same angle, turned the other way, and lies on another circle.
        self.assertIs(is_round(((-8, 5), (-4, -3), (-4, 3), (0, 5))), False)
        self.assertIs(is_round(((-4, 0), (0, -3), (0, 5), (4, 0))), False)
        self.assertIs(is_round(((-4, 0), (0, -4), (0, 4), (4, 0))), True)

    def test_forty_on_one_circle(self):
        self.assertEqual(len(FORTY), 40)
        self.assertIs(is_round(FORTY), True)
        self.assertIs(is_round(tuple((x + 100, y - 300) for x, y in FORTY)), True)

    def test_held_against_the_middle(self):
        for lot in LOTS:
            self.assertIs(is_round(lot), plain_round(lot))
        points = [(x, y) for x in range(4) for y in range(4)]
        for many in (3, 4):
            for lot in combinations(points, many):
                self.assertIs(is_round(lot), plain_round(lot), lot)


class RoundFoursTest(RefusalCase):

    def test_ordinary(self):
        self.assertEqual(round_fours(SQUARE), 1)
        self.assertEqual(first_round(SQUARE), SQUARE)
        board = tuple((x, y) for x in range(3) for y in range(3))
        self.assertEqual(round_fours(board), len(plain_fours(board)))
        self.assertEqual(first_round(board), SQUARE)

    def test_where_there_is_none(self):
        for lot in (ONE, TWO, ((0, 0), (0, 1), (1, 0)), row(4), row(40), ((0, 0), (0, 1), (0, 2), (1, 0)),
                    ((0, 0), (1, 2), (2, 1), (3, 3)), tuple((k, k * k) for k in range(5))):
            self.assertEqual(round_fours(lot), 0)
            self.assertIs(type(round_fours(lot)), int)
            self.assertIsNone(first_round(lot))

    def test_fours_with_three_or_four_on_a_line(self):
        # Each four of these but one has three on a line.
        lot = ((0, 0), (0, 1), (0, 2), (1, 0), (1, 1))
        self.assertEqual(plain_fours(lot), [((0, 0), (0, 1), (1, 0), (1, 1))])
        self.assertEqual(round_fours(lot), 1)
        self.assertEqual(first_round(lot), ((0, 0), (0, 1), (1, 0), (1, 1)))
        lot = row(5) + ((6, 1),)
        self.assertEqual(round_fours(lot), 0)
        self.assertIsNone(first_round(lot))

    def test_the_first_need_not_be_ahead(self):
        lot = ((-9, -7), (0, 0), (0, 1), (1, 0), (1, 1), (2, 0), (2, 1))
        self.assertEqual(first_round(lot), plain_fours(lot)[0])
        lot = ((0, 0), (0, 4), (1, 100), (2, 5), (4, 0), (4, 4), (7, 9))
        self.assertEqual(first_round(lot), ((0, 0), (0, 4), (4, 0), (4, 4)))

    def test_many_on_one_circle(self):
        self.assertEqual(round_fours(FORTY), 40 * 39 * 38 * 37 // 24)
        self.assertEqual(first_round(FORTY), FORTY[:4])
        lot = tuple(circle(25)) + ((7, 7),)
        self.assertEqual(round_fours(lot), len(plain_fours(lot)))

    def test_held_against_all_fours(self):
        for lot in LOTS + (bent(20, 7), tuple(circle(65)), tuple(sorted(circle(5) + circle(25)))):
            if len(lot) < 26:
                fours = plain_fours(lot)
                self.assertEqual(round_fours(lot), len(fours))
                self.assertEqual(first_round(lot), fours[0] if fours else None)

    def test_held_against_all_fours_of_forty(self):
        fours = plain_fours(BOARD)
        self.assertEqual(round_fours(BOARD), len(fours))
        self.assertEqual(first_round(BOARD), fours[0])

    def test_the_first_is_a_lot_that_is_round(self):
        for lot in LOTS:
            told = first_round(lot)
            self.assertIs(told is None, round_fours(lot) == 0)
            if told is not None:
                self.assertIs(is_lot(told), True)
                self.assertEqual(len(told), 4)
                self.assertIs(is_round(told), True)
                self.assertTrue(set(told) <= set(lot))

    def test_they_come_soon(self):
        lot = bent(60, 13)[:40]
        self.assertEqual(len(lot), 40)
        with soon(10):
            for some in (FORTY, BOARD, row(40), lot):
                round_fours(some)
                first_round(some)


class HubTest(RefusalCase):

    def test_ordinary(self):
        self.assertEqual(hub(((-1, 0), (0, -1), (0, 0), (0, 1), (1, 0))), ((0, 0), 1, 4))
        self.assertEqual(hub(row(3)), ((1, 0), 1, 2))
        self.assertEqual(hub(tuple(sorted(circle(25) + [(0, 0)]))), ((0, 0), 25, 12))

    def test_two_points(self):
        self.assertEqual(hub(TWO), ((0, 0), 25, 1))
        self.assertEqual(hub(((-1000, -1000), (1000, 1000))), ((-1000, -1000), 8000000, 1))

    def test_of_several_points_the_first(self):
        self.assertEqual(hub(SQUARE), ((0, 0), 1, 2))
        self.assertEqual(hub(row(4)), ((1, 0), 1, 2))
        self.assertEqual(hub(((0, 0), (1, 0), (3, 0))), ((0, 0), 1, 1))

    def test_of_several_fars_the_least(self):
        self.assertEqual(hub(row(5)), ((1, 0), 1, 2))
        # From (0, 0) two points have far 9, and two others far 4, which come behind.
        self.assertEqual(hub(((-3, 0), (-2, 0), (0, 0), (2, 0), (3, 0))), ((0, 0), 4, 2))
        self.assertEqual(hub(((0, 0), (1, 50), (7, 0))), ((0, 0), 49, 1))

    def test_the_first_point_goes_ahead_of_the_least_far(self):
        # From (0, 0) two are equally far by 25, later on two by 1.
        lot = ((0, 0), (0, 5), (5, 0), (100, 0), (101, 0), (102, 0))
        self.assertEqual(hub(lot), ((0, 0), 25, 2))

    def test_all_lots(self):
        for lot in LOTS + (FORTY, bent(30, 9)):
            if len(lot) > 1:
                self.assertEqual(hub(lot), plain_hub(lot))

    def test_as_from_point_tells_it(self):
        for lot in LOTS:
            if len(lot) > 1:
                point, far, many = hub(lot)
                self.assertIn((far, many), [(ring, len(some)) for ring, some in from_point(lot, point)])

    def test_one_point_is_refused(self):
        for lot in (ONE, ((0, 0),), ((-1000, 1000),)):
            self.assert_refused(NoLot, hub, lot)

    def test_kinds_told(self):
        for lot in LOTS:
            if len(lot) > 1:
                told = hub(lot)
                self.assertEqual([type(told)] + [type(some) for some in told], [tuple, tuple, int, int])


class OfLotsTest(RefusalCase):

    def test_refusals(self):
        for action in OF_LOTS:
            for thing in NOT_LOTS:
                self.assert_refused(NoLot, action, thing)

    def test_arguments_stand_as_the_interface_says(self):
        for action in OF_LOTS:
            self.assertEqual(list(inspect.signature(action).parameters), ["lot"])
        self.assertEqual(list(inspect.signature(circle).parameters), ["number"])
        self.assertEqual(list(inspect.signature(round_of).parameters), ["one", "two", "three"])


class OwnTest(unittest.TestCase):

    def test_lists_told_are_the_askers_own(self):
        for number in (0, 1, 3, 50, 325, MOST):
            first = circle(number)
            kept = list(first)
            first.append("mine")
            first.reverse()
            self.assertEqual(circle(number), kept)
            first.clear()
            self.assertEqual(circle(number), kept)

    def test_the_same_question_has_the_same_answer(self):
        lots = [lot for lot in LOTS if len(lot) > 1]
        kept = [[action(lot) for action in OF_LOTS] for lot in lots]
        for lot in lots:
            with self.assertRaises(NoCircle):
                round_of(lot[0], lot[1], lot[0])
            circle(50).clear()
        self.assertEqual([[action(lot) for action in OF_LOTS] for lot in lots], kept)

    def test_what_is_handed_in_stays_as_it_was(self):
        for thing in ([(0, 0), (1, 0)], [[1], [0]], {"a": [1]}, ([1, 0], {"b": 2}), [0, BIG]):
            kept = copy.deepcopy(thing)
            for action in OF_LOTS:
                with self.assertRaises(NoLot):
                    action(thing)
            for some in ((thing, (0, 0), (0, 1)), ((0, 0), thing, (0, 1)), ((0, 0), (0, 1), thing)):
                with self.assertRaises(NoPoint):
                    round_of(*some)
            with self.assertRaises(NoNumber):
                circle(thing)
            self.assertEqual(thing, kept)


if __name__ == "__main__":
    unittest.main()
