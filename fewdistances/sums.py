"""Sums of two squares."""

from fewdistances.checks import need_within


def sum_ways(number):
    """Tell the rising list of (a, b), b no less than a, whose squares come to the number."""
    need_within(number, 0, 10 ** 9)
    ways = []
    low = 0
    # The square of this is above the number, so no b is left out.
    high = 1 << ((number.bit_length() + 1) // 2)
    while low <= high:
        total = low * low + high * high
        if total == number:
            ways.append((low, high))
        if total > number:
            high -= 1
        else:
            low += 1
    return ways


def primes_in(number):
    """Tell the rising list of (prime, how often it goes into the number), of a number from 1 on."""
    times = {}
    rest = number
    divisor = 2
    while divisor * divisor <= rest:
        if rest % divisor == 0:
            times[divisor] = times.get(divisor, 0) + 1
            rest //= divisor
        else:
            divisor += 1 if divisor == 2 else 2
    if rest > 1:
        times[rest] = times.get(rest, 0) + 1
    return list(times.items())


def circle_points(number):
    """Tell what on_circle tells, of a number from 1 on that has been looked at."""
    many = 4
    for prime, times in primes_in(number):
        if prime % 4 == 1:
            many *= times + 1
        elif prime % 4 == 3 and times % 2 == 1:
            return 0
    return many


def is_sum(number):
    """Tell whether the number is a sum of two squares."""
    need_within(number, 0, 10 ** 12)
    return number == 0 or circle_points(number) > 0


def on_circle(number):
    """Tell how many whole points have the number as their far from (0, 0)."""
    need_within(number, 1, 10 ** 12)
    return circle_points(number)
