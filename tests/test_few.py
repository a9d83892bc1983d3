import copy
import inspect
import unittest
from itertools import combinations

from fewdistances.counts import many_fars
from fewdistances.errors import NoNumber
from fewdistances.few import few_lots, fewest, first_few, first_many, many_lots, most_fars
from fewdistances.points import is_lot
from tests.refusing import RefusalCase
from tests.samples import BIG, NOT_NUMBERS, not_within, plain_board, plain_pairs
from tests.soon import soon

ACTIONS = (fewest, few_lots, first_few, most_fars, many_lots, first_many)
SIDES = range(1, 5)
QUESTIONS = [(w, h, n) for w in SIDES for h in SIDES for n in range(1, min(6, w * h) + 1)]


def plain_lots(w, h, n):
    """Each lot of n points of the board, rising, and how many unlike fars it has."""
    return [(lot, len(set(plain_pairs(lot)))) for lot in combinations(plain_board(w, h), n)]


class FewTest(RefusalCase):

    def test_ordinary(self):
        self.assertEqual(fewest(4, 4, 3), 2)
        self.assertEqual(fewest(4, 4, 4), 2)
        self.assertEqual(fewest(4, 4, 5), 3)
        self.assertEqual(fewest(4, 4, 6), 4)
        self.assertEqual(fewest(1, 4, 4), 3)
        self.assertEqual(few_lots(2, 2, 4), [((0, 0), (0, 1), (1, 0), (1, 1))])
        self.assertEqual(few_lots(1, 4, 3), [((0, 0), (0, 1), (0, 2)), ((0, 1), (0, 2), (0, 3))])
        self.assertEqual(first_few(3, 3, 5), ((0, 0), (0, 2), (1, 1), (2, 0), (2, 2)))
        self.assertEqual(first_few(4, 1, 2), ((0, 0), (1, 0)))

    def test_the_most(self):
        self.assertEqual(most_fars(4, 4, 4), 6)
        self.assertEqual(many_lots(4, 4, 4), 184)
        self.assertEqual(first_many(4, 4, 4), ((0, 0), (0, 1), (1, 2), (3, 0)))
        self.assertEqual(most_fars(1, 4, 3), 3)
        self.assertEqual(many_lots(1, 4, 3), 2)
        self.assertEqual(first_many(1, 4, 3), ((0, 0), (0, 1), (0, 3)))
        self.assertEqual(most_fars(4, 1, 4), 3)
        self.assertEqual(many_lots(4, 1, 4), 1)

    def test_one_point(self):
        for w in SIDES:
            for h in SIDES:
                lots = [(point,) for point in plain_board(w, h)]
                told = [action(w, h, 1) for action in ACTIONS]
                self.assertEqual(told, [0, lots, lots[0], 0, w * h, lots[0]])

    def test_two_points(self):
        self.assertEqual([action(1, 2, 2) for action in ACTIONS],
                         [1, [((0, 0), (0, 1))], ((0, 0), (0, 1)), 1, 1, ((0, 0), (0, 1))])
        self.assertEqual(len(few_lots(4, 4, 2)), 120)

    def test_the_board_lies_the_right_way(self):
        self.assertEqual(few_lots(1, 4, 4), [((0, 0), (0, 1), (0, 2), (0, 3))])
        self.assertEqual(few_lots(4, 1, 4), [((0, 0), (1, 0), (2, 0), (3, 0))])
        self.assertEqual(first_many(2, 3, 6), ((0, 0), (0, 1), (0, 2), (1, 0), (1, 1), (1, 2)))
        self.assertEqual(first_many(3, 2, 6), ((0, 0), (0, 1), (1, 0), (1, 1), (2, 0), (2, 1)))

    def test_all_boards(self):
        for question in QUESTIONS:
            lots = plain_lots(*question)
            least = min(many for lot, many in lots)
            most = max(many for lot, many in lots)
            few = [lot for lot, many in lots if many == least]
            many = [lot for lot, many in lots if many == most]
            told = [action(*question) for action in ACTIONS]
            self.assertEqual(told, [least, few, few[0], most, len(many), many[0]], question)

    def test_the_lots_told_are_lots_of_so_many_fars(self):
        for question in QUESTIONS:
            lots = few_lots(*question)
            self.assertIs(type(lots), list)
            self.assertEqual(lots, sorted(set(lots)))
            for lot in lots + [first_many(*question)]:
                self.assertIs(is_lot(lot), True)
                self.assertEqual(len(lot), question[2])
            self.assertEqual({many_fars(lot) for lot in lots}, {fewest(*question)})
            self.assertEqual(many_fars(first_many(*question)), most_fars(*question))

    def test_kinds_told(self):
        for question in QUESTIONS:
            kinds = [type(action(*question)) for action in ACTIONS]
            self.assertEqual(kinds, [int, list, tuple, int, int, tuple])

    def test_answers_come_soon(self):
        with soon(30):
            for question in QUESTIONS:
                for action in ACTIONS:
                    action(*question)


class RefusedTest(RefusalCase):

    def test_sides(self):
        for action in ACTIONS:
            for thing in not_within(1, 4):
                self.assert_refused(NoNumber, action, thing, 4, 1)
                self.assert_refused(NoNumber, action, 4, thing, 1)
                self.assert_refused(NoNumber, action, thing, thing, 1)

    def test_points(self):
        for action in ACTIONS:
            for thing in not_within(1, 6):
                self.assert_refused(NoNumber, action, 4, 4, thing)
                self.assert_refused(NoNumber, action, 1, 1, thing)

    def test_more_points_than_the_board_has(self):
        for action in ACTIONS:
            for w in SIDES:
                for h in SIDES:
                    if w * h < 6:
                        action(w, h, w * h)
                        self.assert_refused(NoNumber, action, w, h, w * h + 1)
                        self.assert_refused(NoNumber, action, w, h, 6)
                    else:
                        action(w, h, 6)
                        self.assert_refused(NoNumber, action, w, h, 7)
                        self.assert_refused(NoNumber, action, w, h, w * h + 1)

    def test_several_wrong_things_at_once(self):
        for action in ACTIONS:
            for thing in NOT_NUMBERS + (0, 5, BIG, -BIG):
                for other in (None, True, "2", [2], 0, 7, BIG):
                    self.assert_refused(NoNumber, action, thing, 2, other)
                    self.assert_refused(NoNumber, action, 2, thing, other)
                    self.assert_refused(NoNumber, action, thing, other, thing)


class OwnTest(unittest.TestCase):

    def test_arguments_stand_as_the_interface_says(self):
        for action in ACTIONS:
            self.assertEqual(list(inspect.signature(action).parameters), ["w", "h", "n"])

    def test_lists_told_are_the_askers_own(self):
        for question in QUESTIONS:
            kept = [action(*question) for action in ACTIONS]
            kept[1] = list(kept[1])
            first = few_lots(*question)
            first.append("mine")
            first.reverse()
            self.assertEqual([action(*question) for action in ACTIONS], kept)
            first.clear()
            self.assertEqual([action(*question) for action in ACTIONS], kept)

    def test_what_is_handed_in_stays_as_it_was(self):
        for thing in ([1, 2], [[1], [0]], {"a": [1]}, ([1, 0], {"b": 2})):
            kept = copy.deepcopy(thing)
            for action in ACTIONS:
                for question in ((thing, 1, 1), (1, thing, 1), (1, 1, thing)):
                    with self.assertRaises(NoNumber):
                        action(*question)
            self.assertEqual(thing, kept)


if __name__ == "__main__":
    unittest.main()
