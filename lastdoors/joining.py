"""Webs that are put together out of others, and loads that are put together."""

from lastdoors.errors import BadWeb, NoCup, NoHouse, NoLoad, NoNumbers, NoOrder, TooMany
from lastdoors.kinds import is_below, is_tuple_of
from lastdoors.plays import is_load
from lastdoors.webs import MOST_CUPS, MOST_HOUSES, Web


def beside(one, other):
    """Make the web of the houses and cups of the one, and then those of the other."""
    return _joined(one, {}, other)


def behind(one, cup, other, house):
    """Make the web in which, besides, doors of the one to a cup lead to a house of the other."""
    if not is_below(cup, one.cups):
        raise NoCup()
    if not is_below(house, len(other.dealers)):
        raise NoHouse()
    return _joined(one, {-1 - cup: len(one.dealers) + house}, other)


def _joined(one, changes, other):
    """Make the web of both in which some doors of the one are changed as a dict tells."""
    houses = len(one.dealers)
    if houses + len(other.dealers) > MOST_HOUSES:
        raise TooMany(MOST_HOUSES)
    if one.cups + other.cups > MOST_CUPS:
        raise TooMany(MOST_CUPS)
    first = {door: changes.get(door, door) for door in _doors(one)}
    second = {door: door + houses if door >= 0 else door - one.cups for door in _doors(other)}
    dealers = _with_doors(one.dealers, first) + _with_doors(other.dealers, second)
    return Web(one.cups + other.cups, tuple(dealers))


def _doors(web):
    """Tell all doors to cups and houses of a web."""
    return list(range(-web.cups, len(web.dealers)))


def _with_doors(dealers, changed):
    """Make a list of dealers whose doors are changed as a dict tells, their steps in order again."""
    return [tuple([_with_doors_at(pairs, changed) for pairs in dealer]) for dealer in dealers]


def _with_doors_at(pairs, changed):
    """Make a standing whose doors are changed as a dict tells, its steps in order again."""
    return tuple(sorted([(changed[door], after) for door, after in pairs]))


def renumbered(web, order):
    """Make the web in which house k is house order[k] of a web."""
    houses = len(web.dealers)
    if not is_tuple_of(order, houses) or not all([is_below(house, houses) for house in order]):
        raise NoOrder()
    if sorted(order) != list(range(houses)):
        raise NoOrder()
    changed = {door: order.index(door) if door >= 0 else door for door in _doors(web)}
    return Web(web.cups, tuple(_with_doors([web.dealers[house] for house in order], changed)))


def without_choice(web, numbers):
    """Make the fixed web in which each standing keeps the step with a told number, None if that is no web."""
    if not is_tuple_of(numbers, len(web.dealers)):
        raise NoNumbers()
    if not all([_are_numbers_at(dealer, row) for dealer, row in zip(web.dealers, numbers)]):
        raise NoNumbers()
    dealers = []
    for dealer, row in zip(web.dealers, numbers):
        dealers.append(tuple([(pairs[number],) for pairs, number in zip(dealer, row)]))
    try:
        return Web(web.cups, tuple(dealers))
    except BadWeb:
        return None


def _are_numbers_at(dealer, thing):
    """Judge whether a thing is a tuple with the number of a step for each standing of a dealer."""
    if not is_tuple_of(thing, len(dealer)):
        return False
    return all([is_below(number, len(pairs)) for pairs, number in zip(dealer, thing)])


def loads_add(web, one, other):
    """Tell the load of the grains of both loads."""
    if not is_load(web, one) or not is_load(web, other):
        raise NoLoad()
    return tuple([a + b for a, b in zip(one, other)])
