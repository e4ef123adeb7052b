"""Tables: what the prices of a play come to, told by its load and its ends."""

from lastdoors.amounts import NOTHING, divided, less, plus, times, together
from lastdoors.errors import NoCup, NoEnds, NoLoad, NoMoves, NoPrices, NoTable
from lastdoors.kinds import is_below, is_fraction, is_tuple_of
from lastdoors.plays import are_ends, counted, is_load, steps_taken
from lastdoors.prices import are_prices, cost_of, price_of
from lastdoors.walks import PricedWalks, ways_out
from lastdoors.webs import pair_of, steps


def bill(web, prices, moves):
    """Tell the prices of all steps that moves take, together."""
    if not are_prices(web, prices):
        raise NoPrices()
    taken = steps_taken(web, moves)
    if taken is None:
        raise NoMoves()
    return cost_of(prices, counted(taken))


def table(web, prices):
    """Tell the table for prices, None if there is none."""
    if not are_prices(web, prices):
        raise NoPrices()
    return table_for(web, prices)


def table_for(web, prices):
    """Tell the table for right prices, None if there is none.

    In a table each closed walk costs the worths of its houses less those of its doors. So closed
    walks that come together to nothing at all houses have to cost nothing, and those that come to
    something at one house alone tell its worth.
    """
    closed = PricedWalks(web, prices)
    if closed.telling():
        return None
    worths = []
    for house, (numbers, multiples) in enumerate(closed.units):
        worths.append(divided(closed.cost(multiples), numbers[house]))
    leads = [_leads(web, prices, worths, house) for house in range(len(web.dealers))]
    return tuple(worths), tuple(leads)


def sure_table(web, prices):
    """Tell the table for prices, or raise NoPrices or NoTable."""
    found = table(web, prices)
    if found is None:
        raise NoTable()
    return found


def _leads(web, prices, worths, house):
    """Tell the leads of all standings of a house, by a way to each."""
    ways = ways_out(web, house)
    leads = []
    for standing in range(len(web.dealers[house])):
        leads.append(together([_gain(web, prices, worths, step) for step in ways[standing]]))
    return tuple(leads)


def _gain(web, prices, worths, step):
    """Tell the price of a step and the worth of its door, less the worth of its house."""
    door = pair_of(web, step)[0]
    behind = worths[door] if door >= 0 else NOTHING
    return less(plus(price_of(prices, step), behind), worths[step[0]])


def is_table(web, prices, thing):
    """Judge whether a thing is the table for prices."""
    if not are_prices(web, prices):
        raise NoPrices()
    if not is_shaped(web, thing):
        return False
    worths, leads = thing
    for step in steps(web):
        house, standing, _ = step
        gain = less(leads[house][pair_of(web, step)[1]], leads[house][standing])
        if _gain(web, prices, worths, step) != gain:
            return False
    return True


def is_shaped(web, thing):
    """Judge whether a thing is a pair of worths and leads with a fraction at each place."""
    if not (is_tuple_of(thing, 2) and are_fractions(thing[0], len(web.dealers))):
        return False
    leads = thing[1]
    if not is_tuple_of(leads, len(web.dealers)):
        return False
    if not all([are_fractions(row, len(dealer)) for row, dealer in zip(leads, web.dealers)]):
        return False
    return all([row[0] == NOTHING for row in leads])


def are_fractions(thing, many):
    """Judge whether a thing is a tuple of so many fractions."""
    return is_tuple_of(thing, many) and all([is_fraction(part) for part in thing])


def told_bill(web, prices, load, ends):
    """Tell the bill of every play of a load with these ends."""
    worths, leads = sure_table(web, prices)
    if not is_load(web, load):
        raise NoLoad()
    if not are_ends(web, ends):
        raise NoEnds()
    return plus(worth_of(worths, load), lead_of(leads, ends))


def worth_of(worths, load):
    """Tell the worths of the houses of all grains of a load, together."""
    return together([times(worth, many) for worth, many in zip(worths, load)])


def lead_of(leads, ends):
    """Tell the leads of ends, together."""
    return together([row[end] for row, end in zip(leads, ends)])


def share_table(web, cup):
    """Tell the table for the price 1 of each step into a cup, None if there is none."""
    if not is_below(cup, web.cups):
        raise NoCup()
    return table_for(web, {step: (1, 1) for step in steps(web) if pair_of(web, step)[0] == -1 - cup})
