"""Fractions (top, bottom) in lowest terms, bottom 1 or more: how they are added and multiplied."""

from math import gcd, lcm

NOTHING = (0, 1)


def fraction(top, bottom):
    """Tell top divided by bottom, which is not 0, in lowest terms."""
    common = gcd(top, bottom)
    if bottom < 0:
        common = -common
    return top // common, bottom // common


def plus(one, other):
    """Add two fractions."""
    return fraction(one[0] * other[1] + other[0] * one[1], one[1] * other[1])


def less(one, other):
    """Take the other fraction from the one."""
    return fraction(one[0] * other[1] - other[0] * one[1], one[1] * other[1])


def times(one, many):
    """Multiply a fraction by an integer."""
    return fraction(one[0] * many, one[1])


def divided(one, many):
    """Divide a fraction by an integer that is not 0."""
    return fraction(one[0], one[1] * many)


def together(amounts):
    """Add a list of fractions."""
    total = NOTHING
    for amount in amounts:
        total = plus(total, amount)
    return total


def common_bottom(amounts):
    """Tell the least integer from 1 on by which each of a list of fractions becomes an integer."""
    common = 1
    for _, bottom in amounts:
        common = lcm(common, bottom)
    return common


def greatest_divisor(numbers):
    """Tell the greatest integer that divides all of a list of integers, 0 if all are 0."""
    common = 0
    for number in numbers:
        common = gcd(common, number)
    return common


def is_more(one, other):
    """Judge whether the one fraction is greater than the other."""
    return one[0] * other[1] > other[0] * one[1]


def greatest(amounts):
    """Tell the greatest of a list of fractions, not empty."""
    most = amounts[0]
    for amount in amounts:
        if is_more(amount, most):
            most = amount
    return most
