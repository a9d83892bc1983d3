import copy
import inspect
import unittest
from itertools import combinations

from fewdistances.counts import singles
from fewdistances.errors import Alike, NoLot, NoNumber, NoPoint
from fewdistances.points import fars, is_lot
from fewdistances.unlike import filled, first_like, fits, is_likeness, most_unlike, unlike_lots
from tests.refusing import RefusalCase
from tests.samples import (
    BIG, BOARD, CORNERS, LOTS, NOT_LOTS, NOT_NUMBERS, NOT_POINTS, ODD_THINGS, SQUARE,
    bent, not_within, plain_board, plain_far, plain_pairs, plain_unlike, row, unlike_forty,
)
from tests.soon import soon

ONE = ((4, -4),)
TWO = ((0, 0), (3, 4))
THREE = ((0, 0), (1, 0), (3, 0))
FORTY = unlike_forty()
UNLIKE = (ONE, TWO, THREE, ((0, 0), (0, 1), (1, 2), (3, 0)), ((-1000, -1000), (1000, 1000)), FORTY)
ALL_LOTS = LOTS + UNLIKE
SIDES = range(1, 5)
BOARDS = [(w, h) for w in SIDES for h in SIDES]
FILLED_SIDES = range(1, 13)
OF_BOARDS = (filled, most_unlike, unlike_lots)


def plain_likenesses(lot):
    """All likenesses, rising."""
    pairs = list(combinations(lot, 2))
    return [one + other for one, other in combinations(pairs, 2) if plain_far(*one) == plain_far(*other)]


def plain_first(lot):
    some = plain_likenesses(lot)
    return some[0] if some else None


class LikenessTest(RefusalCase):

    def test_ordinary(self):
        a, b, c, d = SQUARE
        self.assertIs(is_likeness(SQUARE, (a, b, c, d)), True)
        self.assertIs(is_likeness(SQUARE, (a, c, b, d)), True)
        self.assertIs(is_likeness(SQUARE, (a, d, b, c)), True)
        self.assertIs(is_likeness(SQUARE, (a, b, a, c)), True)
        self.assertIs(is_likeness(SQUARE, (a, b, b, d)), True)
        self.assertIs(is_likeness(SQUARE, (a, b, a, d)), False)
        self.assertIs(is_likeness(row(3), ((0, 0), (1, 0), (1, 0), (2, 0))), True)
        self.assertIs(is_likeness(row(3), ((0, 0), (1, 0), (0, 0), (2, 0))), False)

    def test_all_fours(self):
        for lot in (ONE, TWO, THREE, SQUARE, row(5), ((0, 0), (0, 2), (1, 1)), bent(6, 3)):
            right = set(plain_likenesses(lot))
            for a in lot:
                for b in lot:
                    for c in lot:
                        for d in lot:
                            self.assertIs(is_likeness(lot, (a, b, c, d)), (a, b, c, d) in right)

    def test_turned_about(self):
        a, b, c, d = SQUARE
        for thing in ((c, d, a, b), (b, a, c, d), (a, b, d, c), (b, a, d, c), (d, c, b, a)):
            self.assertIs(is_likeness(SQUARE, thing), False, thing)

    def test_a_pair_with_itself(self):
        a, b, c, d = SQUARE
        for thing in ((a, b, a, b), (c, d, c, d), (a, a, b, b), (a, a, a, a)):
            self.assertIs(is_likeness(SQUARE, thing), False, thing)

    def test_a_point_outside_the_lot(self):
        a, b, c, d = SQUARE
        for thing in ((a, b, c, (2, 0)), ((-1, 0), a, b, d), (a, b, (5, 5), (5, 6)), ((-1, 0), a, a, b)):
            self.assertIs(is_likeness(SQUARE, thing), False, thing)
        self.assertIs(is_likeness(ONE, SQUARE), False)

    def test_what_equals_points_of_the_lot_but_is_none(self):
        a, b, c, d = SQUARE
        for at in range(4):
            x, y = SQUARE[at]
            for thing in ([x, y], (bool(x), y), (x, bool(y)), (float(x), y), f"{x},{y}", None, x, (x, y, 0), (x,), ()):
                some = list(SQUARE)
                some[at] = thing
                self.assertIs(is_likeness(SQUARE, tuple(some)), False, some)

    def test_of_anything(self):
        a, b, c, d = SQUARE
        things = ODD_THINGS + NOT_NUMBERS + NOT_POINTS + NOT_LOTS + (
            0, 1, 4, BIG, [a, b, c, d], [[a, b], [c, d]], ((a, b), (c, d)), (a, b, c), (a, b, c, d, d), (a, b),
            {0: a, 1: b, 2: c, 3: d}, {a: b, c: d}, (a, b, c, None), (None, None, None, None), (1, 2, 3, 4),
            ("a", "b", "c", "d"), "abcd", (True, False, True, False), (a, b, [c], d), (a, {}, c, d), ({},) * 4,
            ((((((((((0,),),),),),),),),), 1, 2, 3), (a, b, c, (1, BIG)),
        )
        for lot in (ONE, SQUARE, BOARD):
            for thing in things:
                self.assertIs(is_likeness(lot, thing), False, thing)

    def test_an_unlike_lot_has_none(self):
        for lot in UNLIKE[:-1]:
            for a, b in combinations(lot, 2):
                for c, d in combinations(lot, 2):
                    self.assertIs(is_likeness(lot, (a, b, c, d)), False)

    def test_a_lot_is_needed(self):
        for thing in NOT_LOTS:
            for other in (SQUARE, None, ()):
                self.assert_refused(NoLot, is_likeness, thing, other)


class FirstLikeTest(RefusalCase):

    def test_ordinary(self):
        self.assertEqual(first_like(SQUARE), ((0, 0), (0, 1), (0, 0), (1, 0)))
        self.assertEqual(first_like(row(3)), ((0, 0), (1, 0), (1, 0), (2, 0)))
        self.assertEqual(first_like(CORNERS), ((-1000, -1000), (-1000, 1000), (-1000, -1000), (1000, -1000)))

    def test_it_goes_by_points_not_by_fars(self):
        # The far 9 comes twice from (0, 0) on, the far 1 twice only from later points on.
        lot = ((0, 0), (0, 3), (0, 7), (0, 8), (3, 0), (9, 9), (9, 10))
        self.assertEqual(first_like(lot), ((0, 0), (0, 3), (0, 0), (3, 0)))
        # The first pair with a far that comes twice is not the first pair.
        lot = ((0, 0), (0, 2), (0, 7), (1, 100), (2, 105))
        self.assertIsNone(first_like(lot))
        lot = ((0, 0), (0, 2), (0, 7), (1, 100), (1, 105))
        self.assertEqual(first_like(lot), ((0, 2), (0, 7), (1, 100), (1, 105)))

    def test_none_where_the_lot_is_unlike(self):
        for lot in UNLIKE:
            self.assertIsNone(first_like(lot))

    def test_all_lots(self):
        for lot in ALL_LOTS:
            if len(lot) < 26:
                self.assertEqual(first_like(lot), plain_first(lot))

    def test_forty_points(self):
        self.assertEqual(len(FORTY), 40)
        self.assertEqual(first_like(row(40)), ((0, 0), (1, 0), (1, 0), (2, 0)))
        self.assertEqual(first_like(BOARD), plain_first(BOARD))

    def test_unlike_just_where_all_fars_are_singles(self):
        for lot in ALL_LOTS:
            self.assertIs(first_like(lot) is None, singles(lot) == fars(lot))

    def test_it_is_a_likeness(self):
        for lot in ALL_LOTS:
            told = first_like(lot)
            if told is not None:
                self.assertIs(type(told), tuple)
                self.assertIs(is_likeness(lot, told), True)

    def test_refusals(self):
        for thing in NOT_LOTS:
            self.assert_refused(NoLot, first_like, thing)


class FitsTest(RefusalCase):

    def test_ordinary(self):
        self.assertIs(fits(THREE, (0, 1)), False)
        self.assertIs(fits(THREE, (7, 0)), True)
        self.assertIs(fits(THREE, (5, 0)), False)
        self.assertIs(fits(TWO, (1, 0)), True)
        self.assertIs(fits(ONE, (1000, 1000)), True)

    def test_two_new_pairs_with_the_same_far(self):
        self.assertIs(fits(((0, 0), (2, 0)), (1, 0)), False)
        self.assertIs(fits(((0, 0), (2, 0)), (1, 7)), False)

    def test_a_point_anywhere_beside_the_lot(self):
        for lot in UNLIKE[:-1]:
            for x in range(-6, 8):
                for y in range(-6, 8):
                    wanted = (x, y) not in lot and plain_unlike(lot + ((x, y),))
                    self.assertIs(fits(lot, (x, y)), wanted, (lot, x, y))

    def test_a_point_of_the_lot_itself(self):
        for lot in UNLIKE:
            for point in lot:
                self.assertIs(fits(lot, point), False)

    def test_beside_forty_points_the_fars_alone_decide(self):
        told = set()
        for k in range(40):
            point = (25 * k - 500, 17 * k - 301)
            self.assertNotIn(point, FORTY)
            told.add(fits(FORTY, point))
            self.assertIs(fits(FORTY, point), plain_unlike(FORTY + (point,)))
        self.assertEqual(told, {True, False})

    def test_alike_has_the_points_of_the_first_likeness(self):
        for lot in ALL_LOTS:
            wanted = first_like(lot)
            if wanted is not None:
                for thing in ((0, 0), (999, -999), lot[0], None, True, [0, 0], (True, 0), BIG):
                    with self.assertRaises(Alike) as caught:
                        fits(lot, thing)
                    error = caught.exception
                    self.assertEqual((error.one, error.two, error.three, error.four), wanted)
                    self.assertIs(type(error), Alike)

    def test_refusals_at_each_place(self):
        for thing in NOT_LOTS:
            self.assert_refused(NoLot, fits, thing, (0, 0))
        for thing in NOT_POINTS:
            for lot in UNLIKE:
                self.assert_refused(NoPoint, fits, lot, thing)

    def test_what_equals_a_point_but_is_none_is_refused(self):
        for thing in ((True, 0), (1, False), [1, 0], (1.0, 0.0)):
            self.assert_refused(NoPoint, fits, THREE, thing)

    def test_the_left_one_is_refused_first(self):
        for thing in NOT_LOTS:
            for other in (None, True, "0,0", [0, 0], (1001, 0)):
                self.assert_refused(NoLot, fits, thing, other)
        # Not rising, and not unlike either: it is no lot.
        self.assert_refused(NoLot, fits, ((0, 0), (2, 0), (1, 0)), None)
        for thing in NOT_POINTS:
            self.assert_refused(Alike, fits, SQUARE, thing)


class FilledTest(RefusalCase):

    def test_ordinary(self):
        self.assertEqual(filled(1, 4), ((0, 0), (0, 1), (0, 3)))
        self.assertEqual(filled(4, 1), ((0, 0), (1, 0), (3, 0)))
        self.assertEqual(filled(2, 2), ((0, 0), (0, 1)))
        self.assertEqual(filled(1, 12), ((0, 0), (0, 1), (0, 3), (0, 7)))

    def test_edges(self):
        self.assertEqual(filled(1, 1), ((0, 0),))
        self.assertEqual(
            filled(12, 12), ((0, 0), (0, 1), (0, 3), (0, 7), (1, 6), (1, 11), (3, 10), (9, 8)))
        for side in (0, 13):
            self.assert_refused(NoNumber, filled, side, 5)
            self.assert_refused(NoNumber, filled, 5, side)

    def test_all_boards(self):
        for w in FILLED_SIDES:
            for h in FILLED_SIDES:
                wanted = ()
                for point in plain_board(w, h):
                    if plain_unlike(wanted + (point,)):
                        wanted += (point,)
                self.assertEqual(filled(w, h), wanted, (w, h))

    def test_what_follows(self):
        for w in FILLED_SIDES:
            for h in FILLED_SIDES:
                told = filled(w, h)
                self.assertIs(is_lot(told), True)
                self.assertEqual(told[0], (0, 0))
                self.assertIsNone(first_like(told))
                for point in plain_board(w, h):
                    self.assertIs(fits(told, point), False)

    def test_it_comes_soon(self):
        with soon(10):
            for time in range(10):
                filled(12, 12)

    def test_refusals(self):
        for thing in not_within(1, 12):
            self.assert_refused(NoNumber, filled, thing, 12)
            self.assert_refused(NoNumber, filled, 12, thing)
            self.assert_refused(NoNumber, filled, thing, thing)


class MostUnlikeTest(RefusalCase):

    def test_ordinary(self):
        self.assertEqual(most_unlike(4, 4), 4)
        self.assertEqual(len(unlike_lots(4, 4)), 184)
        self.assertEqual(unlike_lots(1, 4), [((0, 0), (0, 1), (0, 3)), ((0, 0), (0, 2), (0, 3))])
        self.assertEqual(unlike_lots(4, 1), [((0, 0), (1, 0), (3, 0)), ((0, 0), (2, 0), (3, 0))])
        self.assertEqual(most_unlike(2, 2), 2)
        self.assertEqual(unlike_lots(2, 2), list(combinations(SQUARE, 2)))

    def test_edges(self):
        self.assertEqual(most_unlike(1, 1), 1)
        self.assertEqual(unlike_lots(1, 1), [((0, 0),)])
        self.assertEqual(most_unlike(1, 2), 2)
        for action in (most_unlike, unlike_lots):
            for side in (0, 5):
                self.assert_refused(NoNumber, action, side, 4)
                self.assert_refused(NoNumber, action, 4, side)

    def test_all_boards(self):
        for w, h in BOARDS:
            points = plain_board(w, h)
            most = 0
            wanted = []
            # Six points of a board have 15 pairs, but at most 9 unlike fars.
            for n in range(1, 7):
                lots = [lot for lot in combinations(points, n) if plain_unlike(lot)]
                if lots:
                    most, wanted = n, lots
            self.assertEqual(most_unlike(w, h), most, (w, h))
            self.assertEqual(unlike_lots(w, h), wanted, (w, h))

    def test_what_follows(self):
        for w, h in BOARDS:
            lots = unlike_lots(w, h)
            self.assertEqual(lots, sorted(set(lots)))
            self.assertLessEqual(len(filled(w, h)), most_unlike(w, h))
            for lot in lots:
                self.assertIs(is_lot(lot), True)
                self.assertEqual(len(lot), most_unlike(w, h))
                self.assertIsNone(first_like(lot))
                self.assertEqual(len(singles(lot)), len(plain_pairs(lot)))

    def test_kinds_told(self):
        for w, h in BOARDS:
            self.assertIs(type(most_unlike(w, h)), int)
            self.assertIs(type(unlike_lots(w, h)), list)

    def test_answers_come_soon(self):
        with soon(10):
            for w, h in BOARDS:
                most_unlike(w, h)
                unlike_lots(w, h)

    def test_refusals(self):
        for action in (most_unlike, unlike_lots):
            for thing in not_within(1, 4):
                self.assert_refused(NoNumber, action, thing, 4)
                self.assert_refused(NoNumber, action, 4, thing)
                self.assert_refused(NoNumber, action, thing, thing)


class OwnTest(unittest.TestCase):

    def test_arguments_stand_as_the_interface_says(self):
        for action, names in ((is_likeness, ["lot", "thing"]), (first_like, ["lot"]), (fits, ["lot", "point"]),
                              (filled, ["w", "h"]), (most_unlike, ["w", "h"]), (unlike_lots, ["w", "h"])):
            self.assertEqual(list(inspect.signature(action).parameters), names)

    def test_lists_told_are_the_askers_own(self):
        for w, h in BOARDS:
            first = unlike_lots(w, h)
            kept = list(first)
            most = most_unlike(w, h)
            first.append("mine")
            first.reverse()
            self.assertEqual(unlike_lots(w, h), kept)
            first.clear()
            self.assertEqual(unlike_lots(w, h), kept)
            self.assertEqual(most_unlike(w, h), most)

    def test_the_same_question_has_the_same_answer(self):
        kept = [(first_like(lot), is_likeness(lot, SQUARE)) for lot in ALL_LOTS]
        for lot in ALL_LOTS:
            with self.assertRaises((Alike, NoPoint)):
                fits(lot, None)
        self.assertEqual([(first_like(lot), is_likeness(lot, SQUARE)) for lot in ALL_LOTS], kept)
        self.assertEqual(filled(7, 9), filled(7, 9))

    def test_what_is_handed_in_stays_as_it_was(self):
        for thing in ([(0, 0), (1, 0)], [[1], [0]], {"a": [1]}, ([1, 0], {"b": 2}), ([0, 0], [0, 1], [1, 0], [1, 1])):
            kept = copy.deepcopy(thing)
            self.assertIs(is_likeness(SQUARE, thing), False)
            for action in (first_like, lambda some: is_likeness(some, some), lambda some: fits(some, some)):
                with self.assertRaises(NoLot):
                    action(thing)
            with self.assertRaises(NoPoint):
                fits(THREE, thing)
            for action in OF_BOARDS:
                with self.assertRaises(NoNumber):
                    action(thing, 1)
                with self.assertRaises(NoNumber):
                    action(1, thing)
            self.assertEqual(thing, kept)


if __name__ == "__main__":
    unittest.main()
