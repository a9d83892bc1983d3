"""Sums of two squares."""

from fewdistances.checks import need_within


def above_root(number):
    """Tell a number whose square is above the number, but not far above it."""
    return 1 << ((number.bit_length() + 1) // 2)


def sum_ways(number):
    """Tell the rising list of (a, b), b no less than a, whose squares come to the number."""
    need_within(number, 0, 10 ** 9)
    ways = []
    low = 0
    high = above_root(number)
    while low <= high:
        total = low * low + high * high
        if total == number:
            ways.append((low, high))
        if total > number:
            high -= 1
        else:
            low += 1
    return ways


def primes_in(number):
    """Tell the rising list of (prime, how often it goes into the number), of a number from 1 on."""
    times = {}
    rest = number
    divisor = 2
    while divisor * divisor <= rest:
        if rest % divisor == 0:
            times[divisor] = times.get(divisor, 0) + 1
            rest //= divisor
        else:
            divisor += 1 if divisor == 2 else 2
    if rest > 1:
        times[rest] = times.get(rest, 0) + 1
    return list(times.items())


def primes_to(most):
    """Tell the rising list of the primes up to most, of a number from 2 on."""
    # Even numbers are passed over: of them only 2 is one.
    stands = [True] * (most + 1)
    divisor = 3
    while divisor * divisor <= most:
        if stands[divisor]:
            for struck in range(divisor * divisor, most + 1, 2 * divisor):
                stands[struck] = False
        divisor += 2
    return [2] + [number for number in range(3, most + 1, 2) if stands[number]]


def primes_among(number, primes):
    """Tell what primes_in tells, of a number and a rising list that has all primes up to its root."""
    times = {}
    rest = number
    for prime in primes:
        if prime * prime > rest:
            break
        while rest % prime == 0:
            times[prime] = times.get(prime, 0) + 1
            rest //= prime
    if rest > 1:
        times[rest] = 1
    return list(times.items())


def points_by_primes(primes):
    """Tell how many points a circle has, of the list of (prime, how often it goes into its far)."""
    many = 4
    for prime, times in primes:
        if prime % 4 == 1:
            many *= times + 1
        elif prime % 4 == 3 and times % 2 == 1:
            return 0
    return many


def circle_points(number):
    """Tell what on_circle tells, of a number from 1 on that has been looked at."""
    return points_by_primes(primes_in(number))


def circles_points(numbers):
    """Tell what on_circle tells of each, of a rising tuple of numbers from 1 on that has been looked at."""
    # Of many great numbers it is sooner done to find the primes once than to try all odd numbers for each.
    primes = primes_to(above_root(numbers[-1]))
    return [points_by_primes(primes_among(number, primes)) for number in numbers]


def is_sum(number):
    """Tell whether the number is a sum of two squares."""
    need_within(number, 0, 10 ** 12)
    return number == 0 or circle_points(number) > 0


def on_circle(number):
    """Tell how many whole points have the number as their far from (0, 0)."""
    need_within(number, 1, 10 ** 12)
    return circle_points(number)
