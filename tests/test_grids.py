import copy
import inspect
import unittest
from collections import Counter
from itertools import combinations

from fewdistances.errors import NoNumber
from fewdistances.grids import greatest_often, grid_often, many_grid
from fewdistances.points import far_table
from fewdistances.sums import is_sum, sum_ways
from tests.refusing import RefusalCase
from tests.samples import BIG, NOT_NUMBERS, not_within, plain_board, plain_far, plain_pairs
from tests.soon import soon

MOST_SIDE = 100000
MOST_COUNTED = 200
MOST_NUMBER = 10 ** 9
BOARDS = [(w, h) for w in range(1, 8) for h in range(1, 8)]
LONG = [(1, 30), (30, 1), (2, 25), (25, 2), (12, 13), (13, 12), (14, 14)]


def by_pairs(w, h):
    """How many pairs have each far, pair by pair."""
    return Counter(plain_far(one, other) for one, other in combinations(plain_board(w, h), 2))


def by_differences(w, h):
    """How many pairs have each far, by their differences, both signs gone through."""
    counts = Counter()
    for a in range(1 - w, w):
        for b in range(1 - h, h):
            # Of two differences that are each other's opposites one is counted.
            if (a, b) > (0, 0):
                counts[a * a + b * b] += (w - abs(a)) * (h - abs(b))
    return counts


def best_of(counts):
    return min(counts.items(), key=lambda pair: (-pair[1], pair[0]), default=None)


class GridOftenTest(RefusalCase):

    def test_ordinary(self):
        self.assertEqual(grid_often(2, 2, 1), 4)
        self.assertEqual(grid_often(2, 2, 2), 2)
        self.assertEqual(grid_often(3, 3, 1), 12)
        self.assertEqual(grid_often(3, 3, 2), 8)
        self.assertEqual(grid_often(3, 3, 4), 6)
        self.assertEqual(grid_often(3, 3, 5), 8)
        self.assertEqual(grid_often(3, 3, 8), 2)
        self.assertEqual(grid_often(3, 3, 3), 0)
        self.assertEqual(grid_often(4, 2, 5), 4)
        self.assertEqual(grid_often(2, 4, 5), 4)
        self.assertEqual(grid_often(4, 2, 9), 2)

    def test_held_against_all_pairs(self):
        for w, h in BOARDS + LONG:
            counts = by_pairs(w, h)
            for number in range(1, (w - 1) ** 2 + (h - 1) ** 2 + 30):
                self.assertEqual(grid_often(w, h, number), counts[number], (w, h, number))

    def test_held_against_all_differences(self):
        for w, h in ((40, 60), (60, 40), (51, 51)):
            counts = by_differences(w, h)
            for number in sorted(counts) + list(range(1, 200)):
                self.assertEqual(grid_often(w, h, number), counts[number], (w, h, number))

    def test_several_ways_of_one_far(self):
        # 25 is 0 and 25, and 9 and 16, each both ways.
        self.assertEqual(grid_often(6, 6, 25), 2 * 1 * 6 + 2 * 2 * (3 * 2))
        self.assertEqual(grid_often(6, 5, 25), 5 + 2 * (3 * 1 + 2 * 2))
        # 50 is 25 twice, which is one way, and 1 and 49.
        self.assertEqual(grid_often(8, 8, 50), 2 * 3 * 3 + 2 * 2 * 7 * 1)

    def test_the_pairs_come_to_all_pairs(self):
        for w, h in BOARDS + LONG:
            told = [grid_often(w, h, number) for number in range(1, (w - 1) ** 2 + (h - 1) ** 2 + 1)]
            self.assertEqual(sum(told), w * h * (w * h - 1) // 2)

    def test_as_a_lot_tells_it(self):
        for w, h in ((5, 8), (8, 5), (1, 40), (6, 6)):
            for far, many in far_table(tuple(plain_board(w, h))):
                self.assertEqual(grid_often(w, h, far), many)

    def test_small_grids(self):
        for number in (1, 2, 25, MOST_NUMBER):
            self.assertEqual(grid_often(1, 1, number), 0)
        for w, h in ((1, 2), (2, 1)):
            self.assertEqual(grid_often(w, h, 1), 1)
            self.assertEqual(grid_often(w, h, 2), 0)
            self.assertEqual(grid_often(w, h, 4), 0)

    def test_a_far_beyond_the_grid(self):
        self.assertEqual(grid_often(5, 5, 32), 2)
        for number in (33, 36, 41, 50, 10 ** 6, MOST_NUMBER):
            self.assertEqual(grid_often(5, 5, number), 0)
        # 25 fits the long side alone, and no slanting way fits.
        self.assertEqual(grid_often(6, 1, 25), 1)
        self.assertEqual(grid_often(1, 6, 25), 1)
        self.assertEqual(grid_often(5, 1, 25), 0)
        self.assertEqual(grid_often(5, 4, 25), 2)
        self.assertEqual(grid_often(4, 4, 25), 0)

    def test_the_greatest_grid(self):
        w = h = MOST_SIDE
        self.assertEqual(grid_often(w, h, 1), 2 * w * (w - 1))
        self.assertEqual(grid_often(w, h, 2), 2 * (w - 1) ** 2)
        self.assertEqual(grid_often(w, h, 3), 0)
        self.assertEqual(grid_often(w, 1, 1), w - 1)
        self.assertEqual(grid_often(1, h, 31622 ** 2), h - 31622)
        ways = ((1200, 31600), (7696, 30672), (10000, 30000), (18000, 26000), (19920, 24560))
        self.assertEqual(grid_often(w, h, MOST_NUMBER), sum(4 * (w - a) * (h - b) for a, b in ways))
        self.assertEqual(grid_often(31601, 1201, MOST_NUMBER), 2)
        self.assertEqual(grid_often(31600, 1201, MOST_NUMBER), 0)
        self.assertEqual(grid_often(31601, 1200, MOST_NUMBER), 0)

    def test_it_has_none_just_where_the_far_is_no_sum(self):
        for number in list(range(1, 300)) + list(range(MOST_NUMBER - 40, MOST_NUMBER + 1)):
            self.assertIs(grid_often(MOST_SIDE, MOST_SIDE, number) > 0, is_sum(number))

    def test_great_numbers_by_their_ways(self):
        for number in (48612265, 999999937, 5 ** 12, 31622 ** 2, 2 * 22360 ** 2):
            for w, h in ((MOST_SIDE, MOST_SIDE), (20000, 30000), (30000, 20000), (7000, 99999)):
                total = 0
                for a, b in sum_ways(number):
                    for c, d in {(a, b), (b, a)}:
                        if c < w and d < h:
                            total += (w - c) * (h - d) * (2 if c and d else 1)
                self.assertEqual(grid_often(w, h, number), total)

    def test_edges(self):
        for side in (0, MOST_SIDE + 1):
            self.assert_refused(NoNumber, grid_often, side, 5, 1)
            self.assert_refused(NoNumber, grid_often, 5, side, 1)
        for number in (0, MOST_NUMBER + 1):
            self.assert_refused(NoNumber, grid_often, 5, 5, number)
        self.assertEqual(grid_often(MOST_SIDE, MOST_SIDE, MOST_NUMBER), 126265627648)
        self.assertEqual(grid_often(1, 1, 1), 0)

    def test_refusals_at_each_place(self):
        for thing in not_within(1, MOST_SIDE):
            self.assert_refused(NoNumber, grid_often, thing, 2, 1)
            self.assert_refused(NoNumber, grid_often, 2, thing, 1)
            self.assert_refused(NoNumber, grid_often, thing, thing, thing)
        for thing in not_within(1, MOST_NUMBER):
            self.assert_refused(NoNumber, grid_often, 2, 2, thing)
            self.assert_refused(NoNumber, grid_often, 0, 2, thing)
            self.assert_refused(NoNumber, grid_often, 2, True, thing)

    def test_it_comes_soon(self):
        with soon(20):
            for number in range(MOST_NUMBER - 50, MOST_NUMBER + 1):
                grid_often(MOST_SIDE, MOST_SIDE, number)


class ManyGridTest(RefusalCase):

    def test_ordinary(self):
        self.assertEqual(many_grid(2, 2), 2)
        self.assertEqual(many_grid(3, 3), 5)
        self.assertEqual(many_grid(4, 4), 9)
        self.assertEqual(many_grid(1, 5), 4)
        # Of the nine differences two come to 1.
        self.assertEqual(many_grid(2, 5), 8)
        # 25 comes of 0 and 5, and of 3 and 4: one far.
        self.assertEqual(many_grid(6, 6), 19)

    def test_edges(self):
        self.assertEqual(many_grid(1, 1), 0)
        self.assertEqual(many_grid(1, 2), 1)
        self.assertEqual(many_grid(2, 1), 1)
        self.assertEqual(many_grid(1, MOST_COUNTED), 199)
        self.assertEqual(many_grid(MOST_COUNTED, 1), 199)
        self.assertEqual(many_grid(MOST_COUNTED, MOST_COUNTED), len(by_differences(MOST_COUNTED, MOST_COUNTED)))
        for side in (0, MOST_COUNTED + 1):
            self.assert_refused(NoNumber, many_grid, side, 5)
            self.assert_refused(NoNumber, many_grid, 5, side)

    def test_held_against_all_pairs(self):
        for w, h in BOARDS + LONG:
            self.assertEqual(many_grid(w, h), len(by_pairs(w, h)), (w, h))

    def test_held_against_all_differences(self):
        for w, h in ((40, 60), (60, 40), (51, 51), (200, 3), (3, 200), (199, 200)):
            self.assertEqual(many_grid(w, h), len(by_differences(w, h)), (w, h))

    def test_just_the_fars_that_some_pairs_have(self):
        for w, h in BOARDS:
            had = [far for far in range(1, (w - 1) ** 2 + (h - 1) ** 2 + 1) if grid_often(w, h, far) > 0]
            self.assertEqual(many_grid(w, h), len(had))


class GreatestOftenTest(RefusalCase):

    def test_ordinary(self):
        self.assertEqual(greatest_often(2, 2), (1, 4))
        self.assertEqual(greatest_often(3, 3), (1, 12))
        self.assertEqual(greatest_often(1, 5), (1, 4))
        self.assertEqual(greatest_often(2, 3), (1, 7))
        self.assertEqual(greatest_often(5, 5)[0], 5)

    def test_of_several_the_least(self):
        # Two fars come equally often on each of these.
        self.assertEqual(greatest_often(4, 4), (1, 24))
        self.assertEqual(greatest_often(3, 7), (1, 32))
        self.assertEqual(greatest_often(7, 3), (1, 32))
        ties = 0
        for w in range(1, 15):
            for h in range(1, 15):
                counts = by_differences(w, h)
                most = max(counts.values(), default=0)
                fars = [far for far in counts if counts[far] == most]
                if fars:
                    ties += len(fars) > 1
                    self.assertEqual(greatest_often(w, h), (min(fars), most), (w, h))
        self.assertGreater(ties, 0)

    def test_edges(self):
        self.assertIsNone(greatest_often(1, 1))
        self.assertEqual(greatest_often(1, 2), (1, 1))
        self.assertEqual(greatest_often(2, 1), (1, 1))
        self.assertEqual(greatest_often(1, MOST_COUNTED), (1, 199))
        self.assertEqual(greatest_often(MOST_COUNTED, MOST_COUNTED), best_of(by_differences(200, 200)))
        self.assertEqual(greatest_often(MOST_COUNTED, MOST_COUNTED), (5525, 549376))
        for side in (0, MOST_COUNTED + 1):
            self.assert_refused(NoNumber, greatest_often, side, 5)
            self.assert_refused(NoNumber, greatest_often, 5, side)

    def test_held_against_all_pairs(self):
        for w, h in BOARDS + LONG:
            self.assertEqual(greatest_often(w, h), best_of(by_pairs(w, h)), (w, h))

    def test_as_often_as_grid_often_tells(self):
        for w, h in BOARDS[1:] + LONG + [(200, 200), (200, 7)]:
            far, many = greatest_often(w, h)
            self.assertEqual(grid_often(w, h, far), many)


class AllTest(RefusalCase):

    def test_refusals(self):
        for action in (many_grid, greatest_often):
            for thing in not_within(1, MOST_COUNTED):
                self.assert_refused(NoNumber, action, thing, 5)
                self.assert_refused(NoNumber, action, 5, thing)
                self.assert_refused(NoNumber, action, thing, thing)
            for thing in NOT_NUMBERS:
                self.assert_refused(NoNumber, action, thing, 0)
                self.assert_refused(NoNumber, action, BIG, thing)

    def test_the_grid_lies_either_way(self):
        for w, h in BOARDS + LONG:
            self.assertEqual(many_grid(w, h), many_grid(h, w))
            self.assertEqual(greatest_often(w, h), greatest_often(h, w))
            self.assertEqual(grid_often(w, h, 5), grid_often(h, w, 5))

    def test_kinds_told(self):
        for w, h in BOARDS:
            self.assertIs(type(many_grid(w, h)), int)
            self.assertIs(type(grid_often(w, h, 5)), int)
            told = greatest_often(w, h)
            if told is not None:
                self.assertEqual([type(told), len(told), type(told[0]), type(told[1])], [tuple, 2, int, int])

    def test_answers_come_soon(self):
        with soon(10):
            for time in range(10):
                many_grid(200, 200)
                greatest_often(200, 200)

    def test_arguments_stand_as_the_interface_says(self):
        for action, names in ((grid_often, ["w", "h", "number"]), (many_grid, ["w", "h"]),
                              (greatest_often, ["w", "h"])):
            self.assertEqual(list(inspect.signature(action).parameters), names)

    def test_the_same_question_has_the_same_answer(self):
        kept = [(many_grid(w, h), greatest_often(w, h), grid_often(w, h, 5)) for w, h in BOARDS]
        for w, h in reversed(BOARDS):
            with self.assertRaises(NoNumber):
                grid_often(w, h, 0)
            greatest_often(h, w)
        self.assertEqual([(many_grid(w, h), greatest_often(w, h), grid_often(w, h, 5)) for w, h in BOARDS], kept)

    def test_what_is_handed_in_stays_as_it_was(self):
        for thing in ([1, 2], [[1], [0]], {"a": [1]}, ([1, 0], {"b": 2})):
            kept = copy.deepcopy(thing)
            for question in ((thing, 1, 1), (1, thing, 1), (1, 1, thing)):
                with self.assertRaises(NoNumber):
                    grid_often(*question)
            for action in (many_grid, greatest_often):
                for question in ((thing, 1), (1, thing)):
                    with self.assertRaises(NoNumber):
                        action(*question)
            self.assertEqual(thing, kept)


class ReferenceTest(unittest.TestCase):

    def test_both_counts_of_the_tests_agree(self):
        for w, h in BOARDS:
            self.assertEqual(by_pairs(w, h), by_differences(w, h))
            self.assertEqual(sorted(by_pairs(w, h).elements()), sorted(plain_pairs(plain_board(w, h))))


if __name__ == "__main__":
    unittest.main()
