import copy
import inspect
import unittest
from itertools import combinations, permutations

from fewdistances.counts import many_fars
from fewdistances.errors import NoLot, NoNumber, NoPoint
from fewdistances.points import fars, is_lot
from fewdistances.two import is_square, many_squares, square_at, two_lots
from tests.refusing import RefusalCase
from tests.samples import (
    BIG, BOARD, CORNERS, LOTS, NOT_LOTS, NOT_NUMBERS, NOT_POINTS, SQUARE, not_within, plain_board, plain_pairs, row,
)
from tests.soon import soon

MOST_SIDE = 10 ** 6
SIDES = range(1, 6)
BOARDS = [(w, h) for w in SIDES for h in SIDES]
ONE = ((4, -4),)


def plain_two(w, h, n):
    return [lot for lot in combinations(plain_board(w, h), n) if len(set(plain_pairs(lot))) <= 2]


def plain_square(lot):
    """Whether some order of four points goes round with like steps, each turned to the left."""
    if len(lot) != 4:
        return False
    for a, b, c, d in permutations(lot):
        x, y = b[0] - a[0], b[1] - a[1]
        if c == (b[0] - y, b[1] + x) and d == (a[0] - y, a[1] + x):
            return True
    return False


def plain_corners(one, other):
    """By numbers with two parts: to turn to the left is to go i times the way."""
    start, end = complex(*one), complex(*other)
    way = (end - start) * 1j
    return tuple(sorted((int(z.real), int(z.imag)) for z in (start, end, start + way, end + way)))


class TwoLotsTest(RefusalCase):

    def test_ordinary(self):
        self.assertEqual(two_lots(2, 2, 4), [SQUARE])
        self.assertEqual(two_lots(2, 2, 3), list(combinations(SQUARE, 3)))
        self.assertEqual(two_lots(1, 3, 2), [((0, 0), (0, 1)), ((0, 0), (0, 2)), ((0, 1), (0, 2))])
        self.assertEqual(two_lots(1, 3, 3), [((0, 0), (0, 1), (0, 2))])
        self.assertEqual(two_lots(3, 1, 3), [((0, 0), (1, 0), (2, 0))])
        self.assertEqual(two_lots(1, 4, 3), [((0, 0), (0, 1), (0, 2)), ((0, 1), (0, 2), (0, 3))])
        self.assertEqual([len(two_lots(5, 5, n)) for n in range(2, 6)], [300, 516, 50, 0])

    def test_held_against_all_lots(self):
        for w, h in BOARDS:
            for n in range(2, 6):
                self.assertEqual(two_lots(w, h, n), plain_two(w, h, n), (w, h, n))

    def test_none_of_five_points(self):
        for w, h in BOARDS:
            self.assertEqual(two_lots(w, h, 5), [])

    def test_no_three_points_have_one_far_alone(self):
        for w, h in BOARDS:
            for lot in two_lots(w, h, 3):
                self.assertEqual(many_fars(lot), 2)

    def test_of_four_points_just_the_squares(self):
        for w, h in BOARDS:
            lots = two_lots(w, h, 4)
            self.assertEqual(len(lots), many_squares(w, h))
            for lot in lots:
                self.assertIs(is_square(lot), True)

    def test_more_points_than_the_board_has(self):
        for w, h in BOARDS:
            for n in range(2, 6):
                if n > w * h:
                    self.assertEqual(two_lots(w, h, n), [])
        self.assertEqual(two_lots(1, 1, 2), [])

    def test_kinds_told(self):
        for w, h in BOARDS:
            for n in range(2, 6):
                lots = two_lots(w, h, n)
                self.assertIs(type(lots), list)
                self.assertEqual(lots, sorted(set(lots)))
                for lot in lots:
                    self.assertIs(is_lot(lot), True)
                    self.assertEqual(len(lot), n)

    def test_edges(self):
        for side in (0, 6):
            self.assert_refused(NoNumber, two_lots, side, 5, 2)
            self.assert_refused(NoNumber, two_lots, 5, side, 2)
        for n in (0, 1, 6):
            self.assert_refused(NoNumber, two_lots, 5, 5, n)
            self.assert_refused(NoNumber, two_lots, 1, 1, n)

    def test_refusals_at_each_place(self):
        for thing in not_within(1, 5):
            self.assert_refused(NoNumber, two_lots, thing, 5, 2)
            self.assert_refused(NoNumber, two_lots, 5, thing, 2)
            self.assert_refused(NoNumber, two_lots, thing, thing, thing)
        for thing in not_within(2, 5):
            self.assert_refused(NoNumber, two_lots, 5, 5, thing)
            self.assert_refused(NoNumber, two_lots, 0, 5, thing)

    def test_it_comes_soon(self):
        with soon(10):
            for time in range(10):
                two_lots(5, 5, 5)


class IsSquareTest(RefusalCase):

    def test_upright(self):
        self.assertIs(is_square(SQUARE), True)
        self.assertIs(is_square(CORNERS), True)
        self.assertIs(is_square(((-3, 5), (-3, 9), (1, 5), (1, 9))), True)

    def test_not_upright(self):
        self.assertIs(is_square(((-1, 0), (0, -1), (0, 1), (1, 0))), True)
        self.assertIs(is_square(((0, 1), (1, 3), (2, 0), (3, 2))), True)
        self.assertIs(is_square(((-1000, 0), (0, -1000), (0, 1000), (1000, 0))), True)
        self.assertIs(is_square(((-1000, -999), (-999, 1000), (999, -1000), (1000, 999))), True)

    def test_four_points_that_are_none(self):
        for lot in (
            # Four like sides, but slanting.
            ((0, 0), (1, 2), (2, 1), (3, 3)), ((0, 0), (3, 4), (5, 0), (8, 4)),
            ((-2, 0), (0, -1), (0, 1), (2, 0)),
            # Both ways across alike, but unlike sides.
            ((0, 0), (0, 1), (2, 0), (2, 1)), ((0, 0), (0, 3), (4, 0), (4, 3)),
            # Ways across alike and at a right angle, but no square.
            ((-1, 0), (0, -2), (0, 2), (3, 0)), ((-1, 0), (0, -1), (0, 3), (3, 0)),
            row(4), ((0, 0), (0, 1), (1, 0), (1, 2)), ((-1000, -1000), (-1000, 1000), (1000, -1000), (1000, 999)),
        ):
            self.assertIs(is_lot(lot), True)
            self.assertIs(is_square(lot), False, lot)

    def test_other_numbers_of_points(self):
        for lot in (ONE, ((0, 0), (0, 1)), SQUARE[:3], SQUARE[1:], SQUARE + ((2, 2),), SQUARE + ((9, 9),), BOARD,
                    ((-1, 0), (0, -1), (0, 0), (0, 1), (1, 0)), row(40)):
            self.assertIs(is_square(lot), False)

    def test_held_against_a_way_round(self):
        for lot in combinations(plain_board(4, 4), 4):
            self.assertIs(is_square(lot), plain_square(lot), lot)
        for lot in LOTS:
            self.assertIs(is_square(lot), plain_square(lot))

    def test_at_most_two_fars_just_where_it_is_one(self):
        for lot in combinations(plain_board(4, 5), 4):
            self.assertIs(is_square(lot), len(fars(lot)) <= 2, lot)

    def test_refusals(self):
        for thing in NOT_LOTS:
            self.assert_refused(NoLot, is_square, thing)


class ManySquaresTest(RefusalCase):

    def test_ordinary(self):
        self.assertEqual([many_squares(n, n) for n in range(1, 7)], [0, 1, 6, 20, 50, 105])
        self.assertEqual(many_squares(2, 3), 2)
        self.assertEqual(many_squares(3, 2), 2)
        self.assertEqual(many_squares(3, 4), 10)
        self.assertEqual(many_squares(2, 1000), 999)

    def test_held_against_all_squares(self):
        for w in range(1, 6):
            for h in range(1, 6):
                squares = [lot for lot in combinations(plain_board(w, h), 4) if plain_square(lot)]
                self.assertEqual(many_squares(w, h), len(squares), (w, h))

    def test_held_against_all_corners(self):
        # Each square comes of its four sides, each taken one way.
        for w, h in ((7, 7), (9, 4), (4, 9)):
            board = set(plain_board(w, h))
            lots = {plain_corners(one, other) for one, other in permutations(board, 2)}
            self.assertEqual(many_squares(w, h), len([lot for lot in lots if set(lot) <= board]))

    def test_held_against_the_sum(self):
        for w in list(range(1, 30)) + [100, 999]:
            for h in list(range(1, 30)) + [77, 1000]:
                wanted = sum(k * (w - k) * (h - k) for k in range(1, min(w, h)))
                self.assertEqual(many_squares(w, h), wanted, (w, h))

    def test_edges(self):
        self.assertEqual(many_squares(1, 1), 0)
        self.assertEqual(many_squares(1, MOST_SIDE), 0)
        self.assertEqual(many_squares(MOST_SIDE, 1), 0)
        self.assertEqual(many_squares(2, MOST_SIDE), MOST_SIDE - 1)
        n = MOST_SIDE
        self.assertEqual(many_squares(n, n), n * n * (n * n - 1) // 12)
        wanted = sum(k * (n - k) * (n - 1 - k) for k in range(1, n - 1))
        self.assertEqual(many_squares(n, n - 1), wanted)
        self.assertEqual(many_squares(n - 1, n), wanted)
        for side in (0, MOST_SIDE + 1):
            self.assert_refused(NoNumber, many_squares, side, 5)
            self.assert_refused(NoNumber, many_squares, 5, side)

    def test_refusals_at_each_place(self):
        for thing in not_within(1, MOST_SIDE):
            self.assert_refused(NoNumber, many_squares, thing, 5)
            self.assert_refused(NoNumber, many_squares, 5, thing)
            self.assert_refused(NoNumber, many_squares, thing, thing)

    def test_it_comes_soon(self):
        with soon(5):
            for side in range(MOST_SIDE - 1000, MOST_SIDE + 1):
                many_squares(MOST_SIDE, side)


class SquareAtTest(RefusalCase):

    def test_ordinary(self):
        self.assertEqual(square_at((0, 0), (1, 0)), SQUARE)
        self.assertEqual(square_at((0, 0), (2, 1)), ((-1, 2), (0, 0), (1, 3), (2, 1)))
        self.assertEqual(square_at((3, 3), (3, 4)), ((2, 3), (2, 4), (3, 3), (3, 4)))

    def test_both_ways_round(self):
        self.assertEqual(square_at((1, 0), (0, 0)), ((0, -1), (0, 0), (1, -1), (1, 0)))
        self.assertEqual(square_at((2, 1), (0, 0)), ((0, 0), (1, -2), (2, 1), (3, -1)))
        for one, other in (((0, 0), (3, 5)), ((-7, 2), (4, -4))):
            self.assertNotEqual(square_at(one, other), square_at(other, one))
            self.assertEqual(set(square_at(one, other)) & set(square_at(other, one)), {one, other})

    def test_held_against_numbers_of_two_parts(self):
        points = [(x, y) for x in range(-3, 4) for y in range(-2, 4)]
        for one, other in permutations(points, 2):
            told = square_at(one, other)
            self.assertEqual(told, plain_corners(one, other))
            self.assertIs(is_lot(told), True)
            self.assertIs(is_square(told), True)

    def test_as_far_as_may_be(self):
        self.assertEqual(square_at((-1000, -1000), (1000, -1000)), CORNERS)
        self.assertEqual(square_at((1000, -1000), (1000, 1000)), CORNERS)
        self.assertEqual(square_at((1000, 1000), (-1000, 1000)), CORNERS)
        self.assertEqual(square_at((-1000, 1000), (-1000, -1000)), CORNERS)
        self.assertEqual(square_at((0, -1000), (1000, 0)), ((-1000, 0), (0, -1000), (0, 1000), (1000, 0)))

    def test_a_corner_that_would_be_none(self):
        self.assert_refused(NoPoint, square_at, (1000, -1000), (-1000, -1000))
        self.assert_refused(NoPoint, square_at, (-1000, -1000), (-1000, 1000))
        for one, other in (((0, 1000), (1, 1000)), ((-1000, 0), (-1000, 1)), ((1, -1000), (0, -1000)),
                           ((1000, 1), (1000, 0)), ((0, 0), (1000, 1)), ((0, 0), (1, 1000)), ((-999, 0), (0, 1000))):
            self.assert_refused(NoPoint, square_at, one, other)
        # One corner alone lies outside: beside one of them, or beside the other.
        self.assert_refused(NoPoint, square_at, (0, 500), (500, 501))
        self.assert_refused(NoPoint, square_at, (-999, 0), (-998, 2))
        self.assertEqual(square_at((0, 500), (500, 500)), ((0, 500), (0, 1000), (500, 500), (500, 1000)))

    def test_two_alike_points(self):
        for point in ((0, 0), (1000, 1000), (-3, 7)):
            self.assert_refused(NoPoint, square_at, point, point)
            self.assert_refused(NoPoint, square_at, point, tuple(list(point)))

    def test_refusals_at_each_place(self):
        for thing in NOT_POINTS:
            self.assert_refused(NoPoint, square_at, thing, (0, 1))
            self.assert_refused(NoPoint, square_at, (0, 1), thing)
            self.assert_refused(NoPoint, square_at, thing, thing)


class OwnTest(unittest.TestCase):

    def test_arguments_stand_as_the_interface_says(self):
        for action, names in ((two_lots, ["w", "h", "n"]), (is_square, ["lot"]), (many_squares, ["w", "h"]),
                              (square_at, ["one", "other"])):
            self.assertEqual(list(inspect.signature(action).parameters), names)

    def test_lists_told_are_the_askers_own(self):
        for w, h in BOARDS:
            for n in (2, 3, 4, 5):
                first = two_lots(w, h, n)
                kept = list(first)
                first.append("mine")
                first.reverse()
                self.assertEqual(two_lots(w, h, n), kept)
                first.clear()
                self.assertEqual(two_lots(w, h, n), kept)

    def test_the_same_question_has_the_same_answer(self):
        kept = [is_square(lot) for lot in LOTS], [many_squares(w, h) for w, h in BOARDS]
        for lot in LOTS:
            with self.assertRaises(NoPoint):
                square_at(lot[0], lot[0])
        self.assertEqual(([is_square(lot) for lot in LOTS], [many_squares(w, h) for w, h in BOARDS]), kept)
        self.assertEqual(square_at((0, 0), (2, 1)), square_at((0, 0), (2, 1)))

    def test_what_is_handed_in_stays_as_it_was(self):
        for thing in ([(0, 0), (1, 0)], [[1], [0]], {"a": [1]}, ([1, 0], {"b": 2}), [0, BIG]):
            kept = copy.deepcopy(thing)
            with self.assertRaises(NoLot):
                is_square(thing)
            for question in ((thing, 1, 2), (1, thing, 2), (1, 1, thing)):
                with self.assertRaises(NoNumber):
                    two_lots(*question)
            for question in ((thing, 1), (1, thing)):
                with self.assertRaises(NoNumber):
                    many_squares(*question)
            for question in ((thing, (0, 0)), ((0, 0), thing)):
                with self.assertRaises(NoPoint):
                    square_at(*question)
            self.assertEqual(thing, kept)

    def test_what_is_no_number_is_no_side(self):
        for thing in NOT_NUMBERS:
            with self.assertRaises(NoNumber):
                many_squares(thing, 0)


if __name__ == "__main__":
    unittest.main()
