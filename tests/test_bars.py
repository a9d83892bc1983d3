import copy
import inspect
import unittest
from itertools import combinations
from math import isqrt

from fewdistances.bars import bar, by_hull, by_pairs, can_have, most_by_circles, pair_bound, spare
from fewdistances.circles import circle
from fewdistances.counts import many_fars, most_often
from fewdistances.errors import NoFars, NoLot, NoNumber
from fewdistances.points import far_table, fars
from fewdistances.sums import on_circle
from tests.refusing import RefusalCase
from tests.samples import (
    BIG, BOARD, LOTS, NOT_LOTS, NOT_NUMBERS, ODD_THINGS, SQUARE, bent, not_within, plain_board, row, unlike_forty,
)
from tests.soon import soon

MOST_HULL = 10 ** 18
MOST = 10 ** 6
MOST_FAR = 10 ** 12
ONE = ((4, -4),)
OF_NUMBERS = (by_hull, pair_bound, by_pairs, bar)
ALL_LOTS = LOTS + (ONE, unlike_forty(), tuple(circle(5525))[:40], bent(30, 9))
# Products of two primes near 10 ** 6 that leave 3 by 4: no sums of two squares, and no little number divides them.
THREES = (999983, 999979, 999959, 999931, 999907, 999883, 999863, 999763, 999727, 999683, 999671, 999667, 999631,
          999623, 999611, 999599, 999563)
HARD = tuple(sorted(one * other for one, other in combinations(THREES, 2)))[:100]
FARS = (1, 2, 4, 5, 8, 9, 10)

NOT_FARS = ODD_THINGS + (
    0, 1, BIG, (0,), (-1,), (0, 1), (1, 1), (2, 1), (1, 2, 2), (1, 3, 2), (MOST_FAR + 1,), (1, MOST_FAR + 1), (BIG,),
    (1, BIG), (-BIG, 1), (True,), (False,), (True, 2), (1, True), (0, True), (1, None), (None,), ("1",), (1, "2"),
    (1, [2]), ([1],), ((1,),), ((1, 2),), (1, (2,)), ({},), (1, {}), [1], [1, 2], [[1]], {1: 2}, {1: 1, 2: 2},
    (1.0,), (1, 2.0), "1 2", "(1,)", tuple(range(1, 102)), tuple(range(1, 151)), tuple(range(100)),
    tuple(reversed(range(1, 6))), (MOST_FAR, 1), SQUARE,
)


def plain_pair_bound(n):
    """By putting one more to the least share twice, as long as the pairs allow."""
    shares = [0] * n
    e = 0
    while True:
        for time in range(2):
            shares[shares.index(min(shares))] += 1
        if sum(share * (share - 1) for share in shares) // 2 > n * (n - 1):
            return e
        e += 1


def shares_allow(n, e):
    """Whether twice e, shared among n as evenly as can be, has few enough pairs."""
    share, over = 2 * e // n, 2 * e % n
    doubled = over * (share + 1) * share + (n - over) * share * (share - 1)
    return doubled <= 2 * n * (n - 1)


def plain_on_circle(number):
    return 4 * sum(isqrt(number - x * x) ** 2 == number - x * x for x in range(1, isqrt(number) + 1))


def plain_can_have(n, some):
    return sum(n * min(plain_on_circle(number), n - 1) // 2 for number in some) >= n * (n - 1) // 2


class ByHullTest(RefusalCase):

    def test_ordinary(self):
        self.assertEqual([by_hull(n) for n in range(1, 9)], [0, 1, 1, 2, 2, 2, 2, 3])

    def test_edges(self):
        self.assertEqual(by_hull(1), 0)
        self.assertEqual(by_hull(2), 1)
        self.assertEqual(by_hull(3), 1)
        self.assertEqual(by_hull(4), 2)
        self.assertEqual(by_hull(MOST_HULL), 10 ** 9)
        self.assertEqual(by_hull(10 ** 18 - 10 ** 9 + 1), 10 ** 9 - 1)
        self.assertEqual(by_hull(10 ** 18 - 10 ** 9 + 2), 10 ** 9)
        for n in (0, MOST_HULL + 1):
            self.assert_refused(NoNumber, by_hull, n)

    def test_just_there_and_one_further(self):
        for t in list(range(1, 300)) + [10 ** 4, 10 ** 6, 123456789, 10 ** 9 - 1]:
            self.assertEqual(by_hull(t * t + t + 1), t)
            self.assertEqual(by_hull(t * t + t), t)
            self.assertEqual(by_hull(t * t + t + 2), t + 1)

    def test_held_against_one_less(self):
        for n in list(range(1, 2000)) + [10 ** k for k in range(19)] + [7 ** k for k in range(21)]:
            t = by_hull(n)
            self.assertGreaterEqual(t * t + t, n - 1)
            self.assertTrue(t == 0 or (t - 1) * t < n - 1, n)


class PairBoundTest(RefusalCase):

    def test_ordinary(self):
        self.assertEqual([pair_bound(n) for n in range(1, 9)], [0, 2, 3, 6, 8, 11, 14, 17])

    def test_held_against_shares_put_one_by_one(self):
        for n in range(1, 60):
            self.assertEqual(pair_bound(n), plain_pair_bound(n), n)

    def test_held_against_one_more(self):
        for n in list(range(1, 3000)) + [10 ** 4, 10 ** 5, 99991, MOST - 1, MOST]:
            told = pair_bound(n)
            self.assertTrue(shares_allow(n, told), n)
            self.assertFalse(shares_allow(n, told + 1), n)

    def test_edges(self):
        self.assertEqual(pair_bound(1), 0)
        self.assertEqual(pair_bound(2), 2)
        self.assertEqual(pair_bound(3), 3)
        for n in (0, MOST + 1):
            self.assert_refused(NoNumber, pair_bound, n)

    def test_no_far_is_had_by_more_pairs(self):
        for lot in ALL_LOTS:
            for far, many in far_table(lot):
                self.assertLessEqual(many, pair_bound(len(lot)))


class ByPairsTest(RefusalCase):

    def test_ordinary(self):
        self.assertEqual([by_pairs(n) for n in range(1, 13)], [0, 1, 1, 1, 2, 2, 2, 2, 2, 2, 3, 3])

    def test_held_against_one_less(self):
        for n in list(range(1, 3000)) + [10 ** 4, 10 ** 5, MOST - 1, MOST]:
            t, bound, half = by_pairs(n), pair_bound(n), n * (n - 1) // 2
            self.assertGreaterEqual(t * bound, half)
            self.assertTrue(t == 0 or (t - 1) * bound < half, n)

    def test_edges(self):
        self.assertEqual(by_pairs(1), 0)
        self.assertEqual(by_pairs(2), 1)
        self.assertEqual(by_pairs(3), 1)
        for n in (0, MOST + 1):
            self.assert_refused(NoNumber, by_pairs, n)

    def test_just_there(self):
        # Three points have three pairs, and a bound of three: once is enough.
        self.assertEqual((pair_bound(3), by_pairs(3)), (3, 1))
        just = [n for n in range(2, 3000) if n * (n - 1) // 2 % pair_bound(n) == 0]
        self.assertGreater(len(just), 1)
        for n in just:
            self.assertEqual(by_pairs(n), n * (n - 1) // 2 // pair_bound(n))


class BarTest(RefusalCase):

    def test_the_greater_of_both(self):
        for n in list(range(1, 2000)) + [MOST - 1, MOST]:
            self.assertEqual(bar(n), max(by_hull(n), by_pairs(n)))

    def test_ordinary(self):
        self.assertEqual([bar(n) for n in (1, 2, 3, 4, 5, 8, 14, 22, 32, 40)], [0, 1, 1, 2, 2, 3, 4, 5, 6, 6])

    def test_edges(self):
        self.assertEqual(bar(MOST), 1000)
        for n in (0, MOST + 1, MOST_HULL):
            self.assert_refused(NoNumber, bar, n)

    def test_no_lot_has_fewer(self):
        for n in range(1, 7):
            for lot in combinations(plain_board(3, 4), n):
                self.assertGreaterEqual(many_fars(lot), bar(n))


class SpareTest(RefusalCase):

    def test_ordinary(self):
        self.assertEqual(spare(SQUARE), 0)
        self.assertEqual(spare(row(3)), 1)
        self.assertEqual(spare(row(40)), 33)
        self.assertEqual(spare(BOARD), many_fars(BOARD) - 6)

    def test_one_point_and_forty(self):
        self.assertEqual(spare(ONE), 0)
        self.assertEqual(spare(unlike_forty()), 780 - 6)

    def test_never_below_nought(self):
        for lot in ALL_LOTS:
            self.assertEqual(spare(lot), many_fars(lot) - bar(len(lot)))
            self.assertGreaterEqual(spare(lot), 0)
        for n in range(1, 6):
            for lot in combinations(plain_board(4, 3), n):
                self.assertGreaterEqual(spare(lot), 0)

    def test_refusals(self):
        for thing in NOT_LOTS:
            self.assert_refused(NoLot, spare, thing)


class MostByCirclesTest(RefusalCase):

    def test_ordinary(self):
        self.assertEqual(most_by_circles(4, 1), 6)
        self.assertEqual(most_by_circles(5, 1), 10)
        self.assertEqual(most_by_circles(6, 1), 12)
        self.assertEqual(most_by_circles(40, 1), 80)
        self.assertEqual(most_by_circles(40, 5), 160)
        self.assertEqual(most_by_circles(40, 25), 240)
        # 48 points lie on the circle, but there are 39 others only.
        self.assertEqual(most_by_circles(40, 5525), 780)

    def test_held_against_the_points(self):
        for n in range(1, 41):
            for number in list(range(1, 60)) + [325, 5525, 160225]:
                wanted = n * min(plain_on_circle(number), n - 1) // 2
                self.assertEqual(most_by_circles(n, number), wanted, (n, number))

    def test_edges(self):
        self.assertEqual(most_by_circles(1, 1), 0)
        self.assertEqual(most_by_circles(1, MOST_FAR), 0)
        self.assertEqual(most_by_circles(2, 1), 1)
        self.assertEqual(most_by_circles(3, 1), 3)
        self.assertEqual(most_by_circles(40, MOST_FAR), 780)
        for n in (0, 41):
            self.assert_refused(NoNumber, most_by_circles, n, 1)
        for number in (0, MOST_FAR + 1):
            self.assert_refused(NoNumber, most_by_circles, 1, number)
            self.assert_refused(NoNumber, most_by_circles, 40, number)

    def test_a_far_that_is_no_sum_of_two_squares(self):
        for n in (1, 2, 3, 40):
            for number in (3, 6, 7, 12, 21, MOST_FAR - 1, HARD[0]):
                told = most_by_circles(n, number)
                self.assertEqual(told, 0)
                self.assertIs(type(told), int)

    def test_no_far_is_had_by_more_pairs(self):
        for lot in ALL_LOTS:
            for far, many in far_table(lot):
                self.assertLessEqual(many, most_by_circles(len(lot), far))

    def test_refusals_at_each_place(self):
        for thing in not_within(1, 40):
            self.assert_refused(NoNumber, most_by_circles, thing, 1)
            self.assert_refused(NoNumber, most_by_circles, thing, thing)
        for thing in not_within(1, MOST_FAR):
            self.assert_refused(NoNumber, most_by_circles, 40, thing)
            self.assert_refused(NoNumber, most_by_circles, 0, thing)


class CanHaveTest(RefusalCase):

    def test_ordinary(self):
        self.assertIs(can_have(4, (1, 2)), True)
        self.assertIs(can_have(5, (1,)), True)
        self.assertIs(can_have(6, (1,)), False)
        self.assertIs(can_have(6, (1, 2)), True)
        self.assertIs(can_have(40, (1, 2, 4)), False)
        self.assertIs(can_have(40, (5525,)), True)
        self.assertIs(can_have(2, (3,)), False)
        self.assertIs(can_have(2, (3, 5)), True)

    def test_just_enough_and_one_fewer(self):
        # Each far of these has four points on its circle, so 80 pairs of forty points at most; 780 are needed.
        fours = tuple(number for number in range(1, 200) if on_circle(number) == 4)
        self.assertIs(can_have(40, fours[:9]), False)
        self.assertIs(can_have(40, fours[:10]), True)
        # 39 points: 78 of 741; nine come to 702, ten to 780.
        self.assertIs(can_have(39, fours[:9]), False)
        self.assertIs(can_have(39, fours[:10]), True)
        # 9 points: 18 of 36, just enough with two.
        self.assertIs(can_have(9, fours[:1]), False)
        self.assertIs(can_have(9, fours[:2]), True)
        self.assertIs(can_have(10, fours[:2]), False)
        self.assertIs(can_have(10, fours[:3]), True)

    def test_each_far_is_halved_alone(self):
        # Seven points: 7 times 5 halved would be more than the rest left out each time.
        for n in range(1, 41):
            for many in range(1, 8):
                self.assertIs(can_have(n, FARS[:many]), plain_can_have(n, FARS[:many]), (n, many))

    def test_held_against_the_points(self):
        tuples = [(number,) for number in range(1, 70)] + [tuple(range(k, 3 * k, 2)) for k in range(1, 20)]
        for some in tuples + [(3, 7, 11), (3, 5, 7), (1, 3, 5525), (25, 325, 1105)]:
            for n in (1, 2, 3, 4, 5, 7, 8, 13, 20, 33, 39, 40):
                self.assertIs(can_have(n, some), plain_can_have(n, some), (n, some))

    def test_as_most_by_circles_tells(self):
        for some in (tuple(range(MOST_FAR - 30, MOST_FAR + 1, 7)), tuple(range(10 ** 9, 10 ** 9 + 12)),
                     (1, 999999999989), (999999999959,), (999999999961, 999999999989), HARD[:4] + (MOST_FAR,),
                     (999983 ** 2,), (999983 ** 2 - 1, 999983 ** 2), (2 ** 39, 3 ** 25, MOST_FAR - 4)):
            some = tuple(sorted(some))
            for n in (2, 3, 9, 17, 40):
                total = sum(most_by_circles(n, number) for number in some)
                self.assertIs(can_have(n, some), total >= n * (n - 1) // 2, (n, some))

    def test_all_the_fars_of_a_lot(self):
        held = 0
        for lot in ALL_LOTS:
            if 1 <= len(fars(lot)) <= 100:
                held += 1
                self.assertIs(can_have(len(lot), tuple(fars(lot))), True)
        for n in range(2, 6):
            for lot in combinations(plain_board(3, 4), n):
                held += 1
                self.assertIs(can_have(n, tuple(fars(lot))), True)
        self.assertGreater(held, 1000)

    def test_where_not_no_lot_has_them(self):
        for n in range(2, 6):
            for lot in combinations(plain_board(3, 4), n):
                table = far_table(lot)
                if len(table) > 1 and not can_have(n, (table[0][0],)):
                    self.assertLess(most_often(lot)[1], n * (n - 1) // 2)

    def test_one_point_needs_none(self):
        for some in ((1,), (3,), (3, 7), HARD):
            self.assertIs(can_have(1, some), True)

    def test_edges(self):
        self.assertIs(can_have(40, tuple(range(1, 101))), True)
        self.assertIs(can_have(40, (MOST_FAR,)), True)
        self.assertIs(can_have(2, (1,)), True)
        self.assertIs(can_have(40, (1,)), False)
        for n in (0, 41):
            self.assert_refused(NoNumber, can_have, n, (1,))
        for some in ((), tuple(range(1, 102)), (0,), (0, 1), (MOST_FAR + 1,), (2, 1), (1, 1), (True,), [1]):
            self.assert_refused(NoFars, can_have, 40, some)

    def test_refusals_at_each_place(self):
        for thing in not_within(1, 40):
            self.assert_refused(NoNumber, can_have, thing, (1,))
        for thing in NOT_FARS:
            self.assert_refused(NoFars, can_have, 40, thing)
            self.assert_refused(NoFars, can_have, 1, thing)

    def test_the_left_one_is_refused_first(self):
        for thing in not_within(1, 40):
            for other in NOT_FARS[::3] + (thing,):
                self.assert_refused(NoNumber, can_have, thing, other)

    def test_it_comes_soon(self):
        self.assertEqual(len(HARD), 100)
        for prime in THREES:
            self.assertEqual(prime % 4, 3)
            self.assertTrue(all(prime % by for by in range(2, 1000)), prime)
        with soon(10):
            self.assertIs(can_have(40, HARD), False)
            self.assertIs(can_have(2, HARD), False)
            can_have(40, tuple(range(MOST_FAR - 99, MOST_FAR + 1)))
            can_have(40, tuple(range(MOST_FAR - 397, MOST_FAR, 4)))


class AllTest(RefusalCase):

    def test_refusals(self):
        for action in OF_NUMBERS:
            for thing in not_within(1, MOST_HULL if action == by_hull else MOST):
                self.assert_refused(NoNumber, action, thing)

    def test_answers_come_soon(self):
        with soon(10):
            for n in range(MOST - 200, MOST + 1):
                pair_bound(n)
                by_pairs(n)
                bar(n)
            for n in range(MOST_HULL - 200, MOST_HULL + 1):
                by_hull(n)

    def test_kinds_told(self):
        for action in OF_NUMBERS:
            for n in (1, 2, 3, 40, MOST):
                self.assertIs(type(action(n)), int)
        for lot in (ONE, SQUARE, BOARD):
            self.assertIs(type(spare(lot)), int)
        for n in (1, 2, 40):
            self.assertIs(type(most_by_circles(n, 5)), int)

    def test_they_never_fall(self):
        for action in OF_NUMBERS:
            told = [action(n) for n in range(1, 500)]
            self.assertEqual(told, sorted(told))

    def test_arguments_stand_as_the_interface_says(self):
        for action in OF_NUMBERS:
            self.assertEqual(list(inspect.signature(action).parameters), ["n"])
        for action, names in ((spare, ["lot"]), (most_by_circles, ["n", "number"]), (can_have, ["n", "some"])):
            self.assertEqual(list(inspect.signature(action).parameters), names)


class OwnTest(unittest.TestCase):

    def test_the_same_question_has_the_same_answer(self):
        kept = [[action(n) for action in OF_NUMBERS] for n in range(1, 60)]
        for n in range(1, 60):
            with self.assertRaises((NoFars, NoNumber)):
                can_have(n, [n])
            can_have(7, (n, n + 1))
        self.assertEqual([[action(n) for action in OF_NUMBERS] for n in range(1, 60)], kept)

    def test_what_is_handed_in_stays_as_it_was(self):
        for thing in ([1, 2], [2, 1], [[1], [0]], {"a": [1]}, (1, [2], {"b": 2}), [BIG]):
            kept = copy.deepcopy(thing)
            for action in OF_NUMBERS:
                with self.assertRaises(NoNumber):
                    action(thing)
            with self.assertRaises(NoLot):
                spare(thing)
            with self.assertRaises(NoFars):
                can_have(4, thing)
            for action in (most_by_circles, can_have):
                with self.assertRaises(NoNumber):
                    action(thing, (1,))
            with self.assertRaises(NoNumber):
                most_by_circles(4, thing)
            self.assertEqual(thing, kept)

    def test_what_is_no_number_is_no_far(self):
        for thing in NOT_NUMBERS:
            with self.assertRaises(NoFars):
                can_have(4, (thing,))


if __name__ == "__main__":
    unittest.main()
