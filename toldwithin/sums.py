"""Sums of many fractions, brought to lowest terms only once: with very long numbers that is what takes time."""

from math import gcd, lcm

from toldwithin.ratios import Ratio


def over_one(numbers):
    """The tops of ratios over one shared bottom, and this bottom."""
    bottom = 1
    for number in numbers:
        bottom = lcm(bottom, number.bottom)
    return [number.top * (bottom // number.bottom) for number in numbers], bottom


def dot(ones, others):
    """The sum of the products of integers, pair by pair."""
    return sum([one * other for one, other in zip(ones, others)])


def sum_of_products(ones, others):
    """The sum of the products of ratios, pair by pair."""
    tops, bottom = over_one(ones)
    other_tops, other_bottom = over_one(others)
    return Ratio(dot(tops, other_tops), bottom * other_bottom)


def is_between(top, bottom, low, high):
    """Whether top over bottom, which is above 0, is from one ratio to another one."""
    return low.top * bottom <= top * low.bottom and top * high.bottom <= high.top * bottom


def shared_by(row):
    """The greatest divisor of all numbers of a row, 1 for a row of zeros."""
    shared = 0
    for part in row:
        shared = gcd(shared, part)
    return shared if shared > 0 else 1
