import copy
import inspect
import unittest
from math import isqrt

from fewdistances.errors import NoNumber
from fewdistances.sums import is_sum, on_circle, sum_ways
from tests.refusing import RefusalCase
from tests.samples import NOT_NUMBERS, not_within
from tests.soon import soon

ACTIONS = (sum_ways, is_sum, on_circle)
MOST_WAYS = 10 ** 9
MOST = 10 ** 12

# Primes near 10 ** 12 and near 10 ** 6, by what they leave by 4.
GREAT_ONE = (999999999989, 999999999961)
GREAT_THREE = (999999999959, 999999999899)
ONE = (999961, 999953)
THREE = (999983, 999979)


def plain_ways(number):
    ways = []
    for a in range(isqrt(number // 2) + 1):
        b = isqrt(number - a * a)
        if a * a + b * b == number:
            ways.append((a, b))
    return ways


def plain_on_circle(number):
    """Each point is turned about into one with x above 0 and y not below 0."""
    return 4 * sum(isqrt(number - x * x) ** 2 == number - x * x for x in range(1, isqrt(number) + 1))


class SumWaysTest(RefusalCase):

    def test_ordinary(self):
        self.assertEqual(sum_ways(2), [(1, 1)])
        self.assertEqual(sum_ways(3), [])
        self.assertEqual(sum_ways(5), [(1, 2)])
        self.assertEqual(sum_ways(25), [(0, 5), (3, 4)])
        self.assertEqual(sum_ways(50), [(1, 7), (5, 5)])
        self.assertEqual(sum_ways(325), [(1, 18), (6, 17), (10, 15)])

    def test_edges(self):
        self.assertEqual(sum_ways(0), [(0, 0)])
        self.assertEqual(sum_ways(1), [(0, 1)])
        self.assertEqual(sum_ways(MOST_WAYS),
                         [(1200, 31600), (7696, 30672), (10000, 30000), (18000, 26000), (19920, 24560)])
        self.assert_refused(NoNumber, sum_ways, MOST_WAYS + 1)
        self.assert_refused(NoNumber, sum_ways, -1)

    def test_all_small_numbers(self):
        for number in range(3000):
            self.assertEqual(sum_ways(number), plain_ways(number), number)

    def test_great_numbers(self):
        for number in (MOST_WAYS - 1, 999999937, 31622 ** 2, 2 * 22360 ** 2, 5 ** 12, 2 ** 29, 3 ** 18,
                       5 * 13 * 17 * 29 * 37 * 41, 31622 ** 2 + 1, 22360 ** 2 + 22361 ** 2):
            self.assertEqual(sum_ways(number), plain_ways(number), number)

    def test_each_way_comes_to_the_number(self):
        for number in (0, 1, 65, 1105, 5 * 13 * 17 * 29 * 37 * 41):
            for a, b in sum_ways(number):
                self.assertEqual(a * a + b * b, number)
                self.assertTrue(0 <= a <= b)

    def test_kinds_told(self):
        for number in (0, 1, 3, 50):
            self.assertIs(type(sum_ways(number)), list)
            for way in sum_ways(number):
                self.assertEqual([type(way)] + [type(side) for side in way], [tuple, int, int])


class IsSumTest(RefusalCase):

    def test_ordinary(self):
        told = [number for number in range(30) if is_sum(number)]
        self.assertEqual(told, [0, 1, 2, 4, 5, 8, 9, 10, 13, 16, 17, 18, 20, 25, 26, 29])

    def test_edges(self):
        self.assertIs(is_sum(0), True)
        self.assertIs(is_sum(MOST), True)
        self.assertIs(is_sum(MOST - 1), False)
        self.assert_refused(NoNumber, is_sum, MOST + 1)
        self.assert_refused(NoNumber, is_sum, -1)

    def test_just_where_there_is_a_way(self):
        for number in list(range(3000)) + list(range(MOST_WAYS - 60, MOST_WAYS + 1)):
            self.assertIs(is_sum(number), sum_ways(number) != [], number)

    def test_high_powers(self):
        for times in range(39):
            self.assertIs(is_sum(2 ** times), True)
        for times in range(26):
            self.assertIs(is_sum(3 ** times), times % 2 == 0)
        for times in range(18):
            self.assertIs(is_sum(5 ** times), True)

    def test_great_primes(self):
        for prime in GREAT_ONE + ONE:
            self.assertIs(is_sum(prime), True)
        for prime in GREAT_THREE + THREE:
            self.assertIs(is_sum(prime), False)

    def test_products_of_two_primes(self):
        self.assertIs(is_sum(ONE[0] * ONE[1]), True)
        self.assertIs(is_sum(ONE[0] * THREE[0]), False)
        # The product leaves 1 by 4, but both primes go into it once.
        self.assertIs(is_sum(THREE[0] * THREE[1]), False)
        self.assertIs(is_sum(THREE[0] * THREE[0]), True)
        self.assertIs(is_sum(ONE[0] * ONE[0]), True)


class OnCircleTest(RefusalCase):

    def test_ordinary(self):
        told = [on_circle(number) for number in range(1, 14)]
        self.assertEqual(told, [4, 4, 0, 4, 8, 0, 0, 4, 4, 8, 0, 0, 8])
        self.assertEqual([on_circle(25), on_circle(50), on_circle(65), on_circle(325)], [12, 12, 16, 24])

    def test_edges(self):
        self.assertEqual(on_circle(1), 4)
        self.assertEqual(on_circle(MOST), 52)
        self.assert_refused(NoNumber, on_circle, 0)
        self.assert_refused(NoNumber, on_circle, -1)
        self.assert_refused(NoNumber, on_circle, MOST + 1)

    def test_all_small_numbers(self):
        for number in range(1, 3000):
            self.assertEqual(on_circle(number), plain_on_circle(number), number)

    def test_by_the_numbers_that_divide_it(self):
        for number in range(1, 1000):
            rests = [by % 4 for by in range(1, number + 1) if number % by == 0]
            self.assertEqual(on_circle(number), 4 * (rests.count(1) - rests.count(3)))

    def test_numbers_near_the_greatest(self):
        for number in (MOST, MOST - 1, MOST - 4, MOST - 12, 5 * 13 * 17 * 29 * 37 * 41 * 53 * 17):
            self.assertEqual(on_circle(number), plain_on_circle(number), number)

    def test_high_powers(self):
        for times in range(39):
            self.assertEqual(on_circle(2 ** times), 4)
        for times in range(26):
            self.assertEqual(on_circle(3 ** times), 0 if times % 2 else 4)
        for times in range(18):
            self.assertEqual(on_circle(5 ** times), 4 * (times + 1))
        self.assertEqual(on_circle(2 ** 10 * 3 ** 6 * 5 ** 8), 36)
        self.assertEqual(on_circle(2 ** 10 * 3 ** 7 * 5 ** 8), 0)

    def test_great_primes(self):
        for prime in GREAT_ONE + ONE:
            self.assertEqual(on_circle(prime), 8)
        for prime in GREAT_THREE + THREE:
            self.assertEqual(on_circle(prime), 0)

    def test_products_of_two_primes(self):
        self.assertEqual(on_circle(ONE[0] * ONE[1]), 16)
        self.assertEqual(on_circle(ONE[0] * THREE[0]), 0)
        self.assertEqual(on_circle(THREE[0] * THREE[1]), 0)
        self.assertEqual(on_circle(THREE[0] * THREE[0]), 4)
        self.assertEqual(on_circle(ONE[0] * ONE[0]), 12)

    def test_kinds_told(self):
        for number in (1, 3, 5, MOST):
            self.assertIs(type(on_circle(number)), int)


class AllTest(RefusalCase):

    def test_refusals(self):
        for action, least, most in ((sum_ways, 0, MOST_WAYS), (is_sum, 0, MOST), (on_circle, 1, MOST)):
            for thing in not_within(least, most):
                self.assert_refused(NoNumber, action, thing)

    def test_answers_come_soon(self):
        with soon(30):
            for number in range(MOST - 20, MOST + 1):
                is_sum(number)
                on_circle(number)
            for prime in GREAT_ONE + GREAT_THREE:
                on_circle(prime)
            for number in range(MOST_WAYS - 20, MOST_WAYS + 1):
                sum_ways(number)

    def test_arguments_stand_as_the_interface_says(self):
        for action in ACTIONS:
            self.assertEqual(list(inspect.signature(action).parameters), ["number"])


class OwnTest(unittest.TestCase):

    def test_lists_told_are_the_askers_own(self):
        for number in (0, 1, 3, 50, 325, MOST_WAYS):
            first = sum_ways(number)
            kept = list(first)
            first.append("mine")
            first.reverse()
            self.assertEqual(sum_ways(number), kept)
            first.clear()
            self.assertEqual(sum_ways(number), kept)

    def test_what_is_handed_in_stays_as_it_was(self):
        for thing in NOT_NUMBERS:
            if isinstance(thing, (list, dict, set, tuple)):
                kept = copy.deepcopy(thing)
                for action in ACTIONS:
                    with self.assertRaises(NoNumber):
                        action(thing)
                self.assertEqual(thing, kept)


if __name__ == "__main__":
    unittest.main()
