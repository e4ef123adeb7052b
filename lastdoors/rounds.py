"""Rounds: numbers of steps that bring all dealers back, and pairs of them that prices tell apart."""

from lastdoors.errors import NoPrices
from lastdoors.kinds import is_tuple_of
from lastdoors.prices import are_prices, cost_of
from lastdoors.walks import PricedWalks, are_counts_of_all, balance_of, load_of_counts
from lastdoors.webs import steps


def are_rounds(web, thing):
    """Judge whether a thing is rounds of a web."""
    return are_rounds_from(web, thing, 0)


def are_rounds_from(web, thing, low):
    """Judge whether a thing is rounds of a web with integers from a lowest one on."""
    if not are_counts_of_all(web, thing) or min(list(thing.values())) < low:
        return False
    return all([many == 0 for many in balance_of(web, thing).values()])


def are_unlike(web, prices, thing):
    """Judge whether a thing is a pair of unlike rounds."""
    if not are_prices(web, prices):
        raise NoPrices()
    if not is_tuple_of(thing, 2):
        return False
    if not all([are_rounds_from(web, part, 1) for part in thing]):
        return False
    one, other = thing
    if load_of_counts(web, one) != load_of_counts(web, other):
        return False
    return cost_of(prices, one) != cost_of(prices, other)


def unlike(web, prices):
    """Tell a pair of unlike rounds, None if there is none."""
    if not are_prices(web, prices):
        raise NoPrices()
    closed = PricedWalks(web, prices)
    telling = closed.telling()
    if not telling:
        return None
    return _rounds_of(web, closed.walks, telling[0], 1), _rounds_of(web, closed.walks, telling[0], -1)


def _rounds_of(web, walks, relation, sign):
    """Tell the rounds of all walks once, and those of a relation with a sign so often as it tells.

    As a relation comes to no load, those of the one and of the other sign come to the same load.
    """
    rounds = {step: 0 for step in steps(web)}
    for at, walk in enumerate(walks):
        many = 1 + max(0, sign * relation.get(at, 0))
        for step in walk:
            rounds[step] += many
    return rounds
