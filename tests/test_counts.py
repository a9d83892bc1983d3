import copy
import unittest
from collections import Counter

from fewdistances.counts import (
    even_threes, first_even, from_point, many_fars, most_often, often, singles,
)
from fewdistances.errors import NoLot, NoNumber, NoPoint
from fewdistances.points import fars
from tests.refusing import RefusalCase
from tests.samples import (
    BIG, BOARD, CORNERS, LOTS, NOT_LOTS, NOT_NUMBERS, NOT_POINTS, SQUARE,
    plain_far, plain_pairs, plain_threes, row,
)

OF_LOTS = (many_fars, most_often, singles, even_threes, first_even)
ONE = ((4, -4),)


class ManyFarsTest(RefusalCase):

    def test_ordinary(self):
        self.assertEqual(many_fars(SQUARE), 2)
        self.assertEqual(many_fars(row(40)), 39)
        self.assertEqual(many_fars(((0, 0), (1, 0))), 1)
        self.assertEqual(many_fars(ONE), 0)

    def test_all_lots(self):
        for lot in LOTS:
            self.assertEqual(many_fars(lot), len(set(plain_pairs(lot))))


class OftenTest(RefusalCase):

    def test_ordinary(self):
        self.assertEqual(often(SQUARE, 1), 4)
        self.assertEqual(often(SQUARE, 2), 2)
        self.assertEqual(often(SQUARE, 3), 0)
        self.assertEqual(often(CORNERS, 8000000), 2)
        self.assertEqual(often(row(40), 1), 39)

    def test_all_lots(self):
        for lot in LOTS:
            counts = Counter(plain_pairs(lot))
            for number in list(counts) + list(range(-3, 60)):
                self.assertEqual(often(lot, number), counts[number])

    def test_any_whole_number_may_be_asked(self):
        for number in (0, -1, -2, BIG, -BIG, 10 ** 30 - 1, 1 - 10 ** 30):
            for lot in (ONE, SQUARE, BOARD):
                told = often(lot, number)
                self.assertEqual(told, 0)
                self.assertIs(type(told), int)

    def test_refusals_at_each_place(self):
        for thing in NOT_LOTS:
            self.assert_refused(NoLot, often, thing, 1)
        for thing in NOT_NUMBERS:
            self.assert_refused(NoNumber, often, SQUARE, thing)
            self.assert_refused(NoNumber, often, ONE, thing)

    def test_the_left_one_is_refused_first(self):
        for thing in NOT_LOTS:
            for other in (None, True, "1", (0, 0)):
                self.assert_refused(NoLot, often, thing, other)


class MostOftenTest(RefusalCase):

    def test_ordinary(self):
        self.assertEqual(most_often(SQUARE), (1, 4))
        self.assertEqual(most_often(row(5)), (1, 4))
        self.assertEqual(most_often(((0, 0), (1, 0), (1, 2), (2, 1), (3, 0))), (2, 3))

    def test_the_greater_far_may_come_more_often(self):
        self.assertEqual(most_often(((0, 0), (0, 1), (5, 0), (5, 1))), (1, 2))
        self.assertEqual(most_often(((0, 0), (0, 1), (0, 3), (0, 5))), (4, 2))

    def test_of_several_the_least(self):
        self.assertEqual(most_often(((0, 0), (1, 0), (3, 0))), (1, 1))
        self.assertEqual(most_often(((0, 0), (0, 3), (2, 0), (2, 3))), (4, 2))
        self.assertEqual(most_often(((0, 0), (0, 9), (0, 13))), (16, 1))

    def test_one_point(self):
        self.assertIsNone(most_often(ONE))
        self.assertIsNone(most_often(((0, 0),)))

    def test_all_lots(self):
        for lot in LOTS:
            counts = Counter(plain_pairs(lot))
            best = min(counts.items(), key=lambda pair: (-pair[1], pair[0]), default=None)
            self.assertEqual(most_often(lot), best)


class SinglesTest(RefusalCase):

    def test_ordinary(self):
        self.assertEqual(singles(SQUARE), [])
        self.assertEqual(singles(row(5)), [16])
        self.assertEqual(singles(((0, 0), (1, 0), (3, 0))), [1, 4, 9])
        self.assertEqual(singles(ONE), [])

    def test_all_lots(self):
        for lot in LOTS:
            counts = Counter(plain_pairs(lot))
            self.assertEqual(singles(lot), sorted(far for far in counts if counts[far] == 1))


class FromPointTest(RefusalCase):

    def test_ordinary(self):
        self.assertEqual(from_point(SQUARE, (0, 0)), [(1, ((0, 1), (1, 0))), (2, ((1, 1),))])
        self.assertEqual(from_point(row(3), (1, 0)), [(1, ((0, 0), (2, 0)))])
        self.assertEqual(from_point(row(3), (2, 0)), [(1, ((1, 0),)), (4, ((0, 0),))])

    def test_one_point(self):
        self.assertEqual(from_point(ONE, (4, -4)), [])

    def test_all_lots(self):
        for lot in LOTS:
            for point in lot:
                wanted = {}
                for other in lot:
                    if other != point:
                        wanted.setdefault(plain_far(point, other), set()).add(other)
                told = from_point(lot, point)
                self.assertEqual(told, [(far, tuple(sorted(wanted[far]))) for far in sorted(wanted)])
                self.assertIs(type(told), list)

    def test_a_point_outside_the_lot_is_refused(self):
        for point in ((2, 2), (0, -1), (-1, 0), (1000, 1000), (1, 2)):
            self.assert_refused(NoPoint, from_point, SQUARE, point)
        self.assert_refused(NoPoint, from_point, ONE, (0, 0))

    def test_refusals_at_each_place(self):
        for thing in NOT_LOTS:
            self.assert_refused(NoLot, from_point, thing, (0, 0))
        for thing in NOT_POINTS:
            self.assert_refused(NoPoint, from_point, SQUARE, thing)

    def test_what_equals_a_point_of_the_lot_but_is_none_is_refused(self):
        for thing in ((True, 0), (1, False), (True, True), [1, 0], (1.0, 0.0)):
            self.assert_refused(NoPoint, from_point, SQUARE, thing)

    def test_the_left_one_is_refused_first(self):
        for thing in NOT_LOTS:
            for other in (None, True, "0,0", [0, 0], (5, 5)):
                self.assert_refused(NoLot, from_point, thing, other)


class EvenThreesTest(RefusalCase):

    def test_ordinary(self):
        self.assertEqual(even_threes(SQUARE), 4)
        self.assertEqual(even_threes(row(3)), 1)
        self.assertEqual(even_threes(((0, 0), (1, 0), (3, 0))), 0)
        # Four points around a fifth: six threes at the middle, one at each of the others.
        self.assertEqual(even_threes(((-1, 0), (0, -1), (0, 0), (0, 1), (1, 0))), 10)

    def test_few_points_have_none(self):
        for lot in (ONE, ((0, 0), (0, 1))):
            self.assertEqual(even_threes(lot), 0)
            self.assertIsNone(first_even(lot))

    def test_first_even(self):
        self.assertEqual(first_even(SQUARE), ((0, 0), (0, 1), (1, 0)))
        self.assertEqual(first_even(row(3)), ((1, 0), (0, 0), (2, 0)))
        self.assertIsNone(first_even(((0, 0), (1, 0), (3, 0))))

    def test_first_even_goes_by_points_not_by_fars(self):
        lot = ((0, 0), (1, 2), (1, 8), (2, 1), (8, 1))
        self.assertEqual(first_even(lot), ((0, 0), (1, 2), (2, 1)))
        # From (0, 0) the farther ring holds the lesser second point.
        lot = ((0, 0), (1, 8), (2, 3), (3, 2), (8, 1))
        self.assertEqual(first_even(lot), ((0, 0), (1, 8), (8, 1)))

    def test_all_lots(self):
        for lot in LOTS:
            threes = plain_threes(lot)
            self.assertEqual(even_threes(lot), len(threes))
            self.assertEqual(first_even(lot), threes[0] if threes else None)


class OfLotsTest(RefusalCase):

    def test_refusals(self):
        for action in OF_LOTS:
            for thing in NOT_LOTS:
                self.assert_refused(NoLot, action, thing)

    def test_kinds_told(self):
        for lot in LOTS:
            self.assertIs(type(many_fars(lot)), int)
            self.assertIs(type(even_threes(lot)), int)
            self.assertIs(type(singles(lot)), list)
            self.assertIn(type(most_often(lot)), (tuple, type(None)))
            self.assertIn(type(first_even(lot)), (tuple, type(None)))


class OwnTest(unittest.TestCase):

    def test_lists_told_are_the_askers_own(self):
        for lot in LOTS:
            for action in (singles, lambda some: from_point(some, some[0])):
                first = action(lot)
                kept = list(first)
                first.append("mine")
                first.reverse()
                self.assertEqual(action(lot), kept)
                first.clear()
                self.assertEqual(action(lot), kept)

    def test_questions_do_not_hang_on_one_another(self):
        kept = [[action(lot) for action in OF_LOTS] for lot in LOTS]
        fars(SQUARE).clear()
        for lot in LOTS:
            singles(lot).append(0)
            from_point(lot, lot[-1]).clear()
            with self.assertRaises(NoNumber):
                often(lot, None)
        self.assertEqual([[action(lot) for action in OF_LOTS] for lot in LOTS], kept)

    def test_what_is_handed_in_stays_as_it_was(self):
        for thing in ([(0, 0), (1, 0)], [[1], [0]], {"a": [1]}, ([1, 0], {"b": 2})):
            kept = copy.deepcopy(thing)
            for action in OF_LOTS:
                with self.assertRaises(NoLot):
                    action(thing)
            with self.assertRaises(NoNumber):
                often(SQUARE, thing)
            with self.assertRaises(NoPoint):
                from_point(SQUARE, thing)
            self.assertEqual(thing, kept)


if __name__ == "__main__":
    unittest.main()
