import copy
import unittest
from collections import Counter

from fewdistances.errors import NoLot, NoPoint
from fewdistances.points import far_of, far_table, fars, is_lot, is_point
from tests.refusing import RefusalCase
from tests.samples import (
    BIG, BOARD, CORNERS, LOTS, NOT_LOTS, NOT_POINTS, SQUARE, plain_far, plain_pairs, row,
)

POINTS = ((0, 0), (-1000, -1000), (1000, 1000), (-1000, 1000), (1000, -1000), (3, -4), (-7, 12))


class PointTest(RefusalCase):

    def test_points(self):
        for point in POINTS:
            self.assertIs(is_point(point), True, point)

    def test_edges_of_numbers(self):
        for number, held in ((1000, True), (1001, False), (-1000, True), (-1001, False),
                             (BIG, False), (-BIG, False)):
            self.assertIs(is_point((number, 0)), held, number)
            self.assertIs(is_point((0, number)), held, number)

    def test_other_things_are_no_points(self):
        for thing in NOT_POINTS:
            self.assertIs(is_point(thing), False, thing)

    def test_a_lot_is_no_point(self):
        for lot in LOTS:
            self.assertIs(is_point(lot), False, lot)

    def test_deep_things_are_looked_at(self):
        deep = 0
        for _ in range(9):
            deep = (deep, [deep], {"a": deep})
        self.assertIs(is_point(deep), False)
        self.assertIs(is_lot(deep), False)
        self.assertIs(is_lot((deep, deep)), False)


class LotTest(RefusalCase):

    def test_lots(self):
        for lot in LOTS:
            self.assertIs(is_lot(lot), True, lot)

    def test_edges_of_length(self):
        for many, held in ((0, False), (1, True), (2, True), (39, True), (40, True),
                           (41, False), (42, False), (400, False)):
            self.assertIs(is_lot(row(many)), held, many)

    def test_rises_as_tuples_compare(self):
        self.assertIs(is_lot(((0, 5), (1, -5))), True)
        self.assertIs(is_lot(((1, -5), (0, 5))), False)
        self.assertIs(is_lot(((0, -5), (0, 5))), True)
        self.assertIs(is_lot(((0, 5), (0, -5))), False)
        self.assertIs(is_lot(((-2, 0), (-1, 0), (0, -9))), True)

    def test_no_point_stands_twice(self):
        for lot in LOTS:
            self.assertIs(is_lot(lot[:1] + lot[:39]), False, lot)
            self.assertIs(is_lot(lot[:39] + lot[:39][-1:]), False, lot)

    def test_other_things_are_no_lots(self):
        for thing in NOT_LOTS:
            self.assertIs(is_lot(thing), False, thing)

    def test_a_wrong_point_is_seen_at_each_place(self):
        for at in range(5):
            for wrong in ((at, True), [at, 0], (at,), (at, 0, 0), (at, 1001), (at, "0"), None, "0,0", 7):
                lot = list(row(5))
                lot[at] = wrong
                self.assertIs(is_lot(tuple(lot)), False, lot)


class FarTest(RefusalCase):

    def test_far_of(self):
        self.assertEqual(far_of((0, 0), (3, 4)), 25)
        self.assertEqual(far_of((-1, 2), (2, -2)), 25)
        self.assertEqual(far_of((0, 0), (1, 0)), 1)
        self.assertEqual(far_of((0, 0), (0, 1)), 1)
        self.assertEqual(far_of((-1000, -1000), (1000, 1000)), 8000000)

    def test_far_of_any_two(self):
        for one in POINTS:
            for other in POINTS:
                self.assertEqual(far_of(one, other), plain_far(one, other))

    def test_far_of_alike_points_is_nought(self):
        for point in POINTS:
            told = far_of(point, point)
            self.assertEqual(told, 0)
            self.assertIs(type(told), int)

    def test_far_of_refuses_at_each_place(self):
        for thing in NOT_POINTS:
            self.assert_refused(NoPoint, far_of, thing, (0, 0))
            self.assert_refused(NoPoint, far_of, (0, 0), thing)
            self.assert_refused(NoPoint, far_of, thing, thing)

    def test_fars(self):
        self.assertEqual(fars(SQUARE), [1, 2])
        self.assertEqual(fars(((0, 0), (1, 0), (3, 0))), [1, 4, 9])
        self.assertEqual(fars(CORNERS), [4000000, 8000000])
        self.assertEqual(fars(row(40)), [k * k for k in range(1, 40)])

    def test_fars_rise_by_number(self):
        self.assertEqual(fars(((0, 0), (0, 3), (0, 4))), [1, 9, 16])
        self.assertEqual(fars(((0, 0), (0, 10), (0, 11))), [1, 100, 121])

    def test_far_table(self):
        self.assertEqual(far_table(SQUARE), [(1, 4), (2, 2)])
        self.assertEqual(far_table(row(4)), [(1, 3), (4, 2), (9, 1)])
        self.assertEqual(far_table(((0, 0), (3, 4))), [(25, 1)])

    def test_one_point_has_no_fars(self):
        for lot in (((0, 0),), ((1000, -1000),)):
            self.assertEqual(fars(lot), [])
            self.assertEqual(far_table(lot), [])

    def test_all_lots_agree_with_their_pairs(self):
        for lot in LOTS:
            pairs = plain_pairs(lot)
            self.assertEqual(fars(lot), sorted(set(pairs)))
            self.assertEqual(far_table(lot), sorted(Counter(pairs).items()))

    def test_counts_come_to_all_pairs(self):
        for lot in LOTS:
            told = sum(many for far, many in far_table(lot))
            self.assertEqual(told, len(lot) * (len(lot) - 1) // 2)

    def test_kinds_told(self):
        for lot in LOTS:
            self.assertIs(type(fars(lot)), list)
            self.assertIs(type(far_table(lot)), list)
            for entry in far_table(lot):
                self.assertIs(type(entry), tuple)
                self.assertEqual([type(number) for number in entry], [int, int])

    def test_fars_and_far_table_refuse_no_lots(self):
        for thing in NOT_LOTS:
            self.assert_refused(NoLot, fars, thing)
            self.assert_refused(NoLot, far_table, thing)


class OwnTest(unittest.TestCase):

    def test_lists_told_are_the_askers_own(self):
        for action in (fars, far_table):
            for lot in LOTS:
                first = action(lot)
                kept = list(first)
                first.append("mine")
                first.reverse()
                self.assertEqual(action(lot), kept)
                first.clear()
                self.assertEqual(action(lot), kept)

    def test_what_is_handed_in_stays_as_it_was(self):
        for thing in ([(0, 0), (1, 0)], [[1], [0]], {"a": [1]}, ([1, 0], {"b": 2}), {(0, 0): [1]}):
            kept = copy.deepcopy(thing)
            is_point(thing)
            is_lot(thing)
            for action in (fars, far_table):
                with self.assertRaises(NoLot):
                    action(thing)
            with self.assertRaises(NoPoint):
                far_of(thing, thing)
            self.assertEqual(thing, kept)

    def test_what_is_told_may_be_handed_in_again(self):
        table = far_table(BOARD)
        self.assertIs(is_lot(tuple(far_table(SQUARE))), True)
        self.assertIs(is_lot(table), False)
        self.assertEqual(far_table(BOARD), table)


if __name__ == "__main__":
    unittest.main()
