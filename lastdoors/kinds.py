"""What kind a thing is: True and False are no integers here, also inside other things."""

from math import gcd


def is_integer(thing):
    """Judge whether a thing is an integer and no flag."""
    return isinstance(thing, int) and not isinstance(thing, bool)


def is_within(thing, low, high):
    """Judge whether a thing is an integer from low to high, both included."""
    return is_integer(thing) and low <= thing <= high


def is_below(thing, limit):
    """Judge whether a thing is an integer from 0 on below a limit."""
    return is_within(thing, 0, limit - 1)


def is_tuple_of(thing, many):
    """Judge whether a thing is a tuple of so many things."""
    return isinstance(thing, tuple) and len(thing) == many


def are_integers(things):
    """Judge whether all of a tuple are integers."""
    return all([is_integer(thing) for thing in things])


def is_ascending(things):
    """Judge whether things that can be compared stand in strictly ascending order."""
    return all([a < b for a, b in zip(things, things[1:])])


def is_fraction(thing):
    """Judge whether a thing is a pair (top, bottom) in lowest terms, bottom 1 or more."""
    if not (is_tuple_of(thing, 2) and are_integers(thing)):
        return False
    return thing[1] >= 1 and gcd(thing[0], thing[1]) == 1
