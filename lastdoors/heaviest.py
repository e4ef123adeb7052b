"""Heaviest forests, nests that bar heavier ones, and the most and least that choices can do."""

from lastdoors.amounts import common_bottom, fraction, less, plus
from lastdoors.errors import NoCup, NoLoad, NoNest, NoWeights
from lastdoors.kinds import is_ascending, is_below, is_integer, is_tuple_of, is_within
from lastdoors.nests import best_forest, leaves
from lastdoors.plays import is_load
from lastdoors.tables import share_table, sure_table, worth_of
from lastdoors.webs import is_step, pair_of, steps, steps_of

HIGHEST_WEIGHT = 1000000


def _are_weights(web, thing):
    """Judge whether a thing is weights: a dict from some steps to integers within the bounds."""
    if not isinstance(thing, dict):
        return False
    return all([is_step(web, step) and is_within(weight, -HIGHEST_WEIGHT, HIGHEST_WEIGHT)
                for step, weight in thing.items()])


def heaviest(web, weights):
    """Tell the greatest sum of weights of a forest, and such a forest."""
    if not _are_weights(web, weights):
        raise NoWeights()
    return _heaviest_of(web, weights)


def _heaviest_of(web, weights):
    """Tell the greatest sum of weights of any size of a forest, and such a forest."""
    forest, _ = best_forest(web, weights)
    return sum([weights.get(step, 0) for step in forest]), forest


def _is_nest_of_lots(web, thing):
    """Judge whether a thing is a nest, whatever its bound."""
    if not isinstance(thing, tuple):
        return False
    if not all([is_tuple_of(part, 2) and _is_lot(web, part[0]) and _is_z(part[1]) for part in thing]):
        return False
    return len({lot for lot, _ in thing}) == len(thing)


def _is_lot(web, thing):
    """Judge whether a thing is a lot of houses, and not ()."""
    if not isinstance(thing, tuple) or thing == ():
        return False
    if not all([is_below(house, len(web.dealers)) for house in thing]):
        return False
    return is_ascending(thing)


def _is_z(thing):
    """Judge whether a thing is an integer from 1 on."""
    return is_integer(thing) and thing >= 1


def bound_of(web, weights, nest):
    """Tell the bound of a nest: no forest is heavier."""
    if not _are_weights(web, weights):
        raise NoWeights()
    if not _is_nest_of_lots(web, nest):
        raise NoNest()
    return _bound(web, weights, nest)


def _bound(web, weights, told):
    """Tell the bound of a right nest."""
    sums = {step: weights.get(step, 0) for step in steps(web)}
    for lot, z in told:
        for house in lot:
            for step in steps_of(web, house):
                if leaves(web, step, lot):
                    sums[step] += z
    tops = [max([sums[step] for step in steps_of(web, house)]) for house in range(len(web.dealers))]
    return sum(tops) - sum([z for _, z in told])


def nest(web, weights):
    """Tell a nest whose bound is the number of heaviest."""
    if not _are_weights(web, weights):
        raise NoWeights()
    return best_forest(web, weights)[1]


def is_nest(web, weights, thing):
    """Judge whether a thing is a nest whose bound is the number of heaviest."""
    if not _are_weights(web, weights):
        raise NoWeights()
    if not _is_nest_of_lots(web, thing):
        return False
    return _bound(web, weights, thing) == _heaviest_of(web, weights)[0]


def most(web, prices):
    """Tell the greatest sum of leads of ends that can come, and a forest to such ends."""
    return _extreme(web, sure_table(web, prices)[1], 1)


def least(web, prices):
    """Tell the least sum of leads of ends that can come, and a forest to such ends."""
    return _extreme(web, sure_table(web, prices)[1], -1)


def spread(web, prices):
    """Tell how much more the greatest sum of leads is than the least one."""
    leads = sure_table(web, prices)[1]
    return less(_extreme(web, leads, 1)[0], _extreme(web, leads, -1)[0])


def _extreme(web, leads, sign):
    """Tell the greatest sum of leads for the sign 1, the least one for -1, and a forest to such ends."""
    common = common_bottom([lead for row in leads for lead in row])
    weights = {}
    for step in steps(web):
        top, bottom = leads[step[0]][pair_of(web, step)[1]]
        weights[step] = sign * top * (common // bottom)
    number, forest = _heaviest_of(web, weights)
    return fraction(sign * number, common), forest


def cup_bounds(web, cup, load):
    """Tell between which fractions the grains lie that plays of a load bring into a cup, None without a table."""
    if not is_below(cup, web.cups):
        raise NoCup()
    if not is_load(web, load):
        raise NoLoad()
    found = share_table(web, cup)
    if found is None:
        return None
    worths, leads = found
    worth = worth_of(worths, load)
    low, high = [_extreme(web, leads, sign)[0] for sign in (-1, 1)]
    return plus(worth, low), plus(worth, high)
