"""Prices of steps, and what steps cost together."""

from lastdoors.amounts import NOTHING, times, together
from lastdoors.kinds import is_fraction, is_within
from lastdoors.webs import is_step

HIGHEST_TOP = 1000000000
HIGHEST_BOTTOM = 1000000


def are_prices(web, thing):
    """Judge whether a thing is prices: a dict from some steps to fractions within the bounds."""
    if not isinstance(thing, dict):
        return False
    return all([is_step(web, step) and is_price(price) for step, price in thing.items()])


def is_price(thing):
    """Judge whether a thing is a fraction within the bounds of prices."""
    if not is_fraction(thing):
        return False
    return is_within(thing[0], -HIGHEST_TOP, HIGHEST_TOP) and thing[1] <= HIGHEST_BOTTOM


def price_of(prices, step):
    """Tell the price of a step."""
    return prices.get(step, NOTHING)


def cost_of(prices, counts):
    """Tell the prices of all steps of a dict, each so often as it tells, together."""
    return together([times(prices[step], many) for step, many in counts.items() if step in prices])
