import copy
import inspect
import unittest

from fewdistances.errors import NoLot, NoNumber, NoPoint
from fewdistances.moves import mirrored, moved, turned_about
from fewdistances.points import far_table, is_lot
from tests.refusing import RefusalCase
from tests.samples import BIG, BOARD, CORNERS, LOTS, NOT_LOTS, NOT_NUMBERS, SQUARE, row

ONE = ((4, -4),)
BENT = ((0, 0), (0, 3), (2, -1))
OVER = 10 ** 30 - 1


class MovedTest(RefusalCase):

    def test_ordinary(self):
        self.assertEqual(moved(SQUARE, 2, 5), ((2, 5), (2, 6), (3, 5), (3, 6)))
        self.assertEqual(moved(BENT, -1, -3), ((-1, -3), (-1, 0), (1, -4)))
        self.assertEqual(moved(ONE, 0, 1), ((4, -3),))
        self.assertEqual(moved(ONE, 1, 0), ((5, -4),))

    def test_moved_by_nought_it_stays(self):
        for lot in LOTS:
            self.assertEqual(moved(lot, 0, 0), lot)

    def test_all_lots(self):
        for lot in LOTS:
            if lot not in (CORNERS, ((-1000, 1000),)):
                for across, up in ((3, -7), (-11, 0), (0, 13), (900, -900)):
                    told = moved(lot, across, up)
                    self.assertEqual(told, tuple((x + across, y + up) for x, y in lot))
                    self.assertIs(is_lot(told), True)
                    self.assertEqual(far_table(told), far_table(lot))
                    self.assertEqual(moved(told, -across, -up), lot)

    def test_as_far_as_may_be(self):
        self.assertEqual(moved(SQUARE, 999, 0)[-1], (1000, 1))
        self.assertEqual(moved(SQUARE, 0, 999)[-1], (1, 1000))
        self.assertEqual(moved(SQUARE, -1000, -1000)[0], (-1000, -1000))
        self.assertEqual(moved(((-1000, 1000),), 2000, -2000), ((1000, -1000),))
        self.assertEqual(moved(row(40), 961, 1000)[-1], (1000, 1000))
        self.assertEqual(len(moved(row(40), 961, -1000)), 40)

    def test_one_further_is_refused(self):
        for across, up in ((1000, 0), (0, 1000), (-1001, 0), (0, -1001), (1000, 1000), (1000, -1001)):
            self.assert_refused(NoPoint, moved, SQUARE, across, up)
        for lot, across, up in ((row(40), 962, 0), (row(40), -1001, 0), (ONE, 997, 0), (ONE, 0, -997)):
            self.assert_refused(NoPoint, moved, lot, across, up)

    def test_one_point_outside_is_enough(self):
        # The outer point is the first, one in the middle, or the last of its lot.
        for lot, across, up in ((CORNERS, -1, 0), (CORNERS, 1, 0), (CORNERS, 0, 1), (CORNERS, 0, -1),
                                (((0, 0), (1, 900), (2, 0)), 0, 101), (((0, 0), (1, -900), (2, 0)), 0, -101)):
            self.assert_refused(NoPoint, moved, lot, across, up)

    def test_numbers_of_thirty_figures(self):
        for number in (BIG, -BIG, OVER, -OVER):
            self.assert_refused(NoPoint, moved, SQUARE, number, 0)
            self.assert_refused(NoPoint, moved, SQUARE, 0, number)
            self.assert_refused(NoPoint, moved, ONE, number, -number)

    def test_refusals_at_each_place(self):
        for thing in NOT_LOTS:
            self.assert_refused(NoLot, moved, thing, 0, 0)
        for thing in NOT_NUMBERS:
            self.assert_refused(NoNumber, moved, SQUARE, thing, 0)
            self.assert_refused(NoNumber, moved, SQUARE, 0, thing)
            self.assert_refused(NoNumber, moved, SQUARE, thing, thing)

    def test_the_left_one_is_refused_first(self):
        for thing in NOT_LOTS:
            for across, up in ((None, 0), (0, None), (True, "1"), (BIG, BIG), (None, BIG)):
                self.assert_refused(NoLot, moved, thing, across, up)

    def test_no_point_comes_behind_all_else(self):
        for thing in NOT_NUMBERS:
            for number in (5000, -BIG):
                self.assert_refused(NoNumber, moved, SQUARE, thing, number)
                self.assert_refused(NoNumber, moved, SQUARE, number, thing)
                self.assert_refused(NoNumber, moved, CORNERS, number, thing)


class TurnedTest(RefusalCase):

    def test_turned(self):
        self.assertEqual(turned_about(BENT), ((-3, 0), (0, 0), (1, 2)))
        self.assertEqual(turned_about(SQUARE), ((-1, 0), (-1, 1), (0, 0), (0, 1)))
        self.assertEqual(turned_about(ONE), ((4, 4),))
        self.assertEqual(turned_about(((-1000, 1000),)), ((-1000, -1000),))
        self.assertEqual(turned_about(CORNERS), CORNERS)

    def test_mirrored(self):
        self.assertEqual(mirrored(BENT), ((-1, 2), (0, 0), (3, 0)))
        self.assertEqual(mirrored(SQUARE), SQUARE)
        self.assertEqual(mirrored(ONE), ((-4, 4),))
        self.assertEqual(mirrored(row(40)), tuple((0, k) for k in range(40)))
        self.assertEqual(mirrored(CORNERS), CORNERS)

    def test_all_lots(self):
        for lot in LOTS:
            self.assertEqual(turned_about(lot), tuple(sorted((-y, x) for x, y in lot)))
            self.assertEqual(mirrored(lot), tuple(sorted((y, x) for x, y in lot)))

    def test_a_lot_of_the_same_table_is_told(self):
        for lot in LOTS:
            for action in (turned_about, mirrored):
                self.assertIs(is_lot(action(lot)), True)
                self.assertEqual(far_table(action(lot)), far_table(lot))

    def test_turned_four_times_and_mirrored_twice(self):
        for lot in LOTS:
            twice = turned_about(turned_about(lot))
            self.assertEqual(twice, tuple(sorted((-x, -y) for x, y in lot)))
            self.assertEqual(turned_about(turned_about(twice)), lot)
            self.assertEqual(mirrored(mirrored(lot)), lot)

    def test_refusals(self):
        for thing in NOT_LOTS:
            self.assert_refused(NoLot, turned_about, thing)
            self.assert_refused(NoLot, mirrored, thing)


class OwnTest(unittest.TestCase):

    def test_arguments_stand_as_the_interface_says(self):
        for action, names in ((moved, ["lot", "across", "up"]), (turned_about, ["lot"]), (mirrored, ["lot"])):
            self.assertEqual(list(inspect.signature(action).parameters), names)

    def test_the_same_question_has_the_same_answer(self):
        kept = [(moved(BOARD, 1, 2), turned_about(BOARD), mirrored(BOARD)) for time in range(2)]
        with self.assertRaises(NoPoint):
            moved(BOARD, 1000, 0)
        kept.append((moved(BOARD, 1, 2), turned_about(BOARD), mirrored(BOARD)))
        self.assertEqual(kept[0], kept[1])
        self.assertEqual(kept[0], kept[2])

    def test_what_is_handed_in_stays_as_it_was(self):
        for thing in ([(0, 0), (1, 0)], [[1], [0]], {"a": [1]}, ([1, 0], {"b": 2})):
            kept = copy.deepcopy(thing)
            for action in (turned_about, mirrored, lambda some: moved(some, 1, 1)):
                with self.assertRaises(NoLot):
                    action(thing)
            with self.assertRaises(NoNumber):
                moved(SQUARE, thing, 0)
            with self.assertRaises(NoNumber):
                moved(SQUARE, 0, thing)
            self.assertEqual(thing, kept)


if __name__ == "__main__":
    unittest.main()
