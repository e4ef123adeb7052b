"""Functions of strangers that claim to tell ends and bills: the first ones that they tell wrong."""

from lastdoors.amounts import plus
from lastdoors.errors import NoNumber, TooMany
from lastdoors.forests import all_ends, every_ends, many_ends
from lastdoors.kinds import is_fraction, is_within
from lastdoors.plays import full_loads, many_full_loads
from lastdoors.tables import lead_of, sure_table, worth_of

MOST_GRAINS = 3
MOST_PAIRS = 20000


def refuted(claim, web):
    """Tell the least ends of which a claim does not tell whether they can come, None if there are none."""
    coming = {ends: True for ends in all_ends(web)}
    for ends in every_ends(web):
        told = claim(ends)
        if not isinstance(told, bool) or told != (ends in coming):
            return ends
    return None


def refuted_bill(claim, web, prices, most):
    """Tell the least pair (load, ends) of which a claim does not tell the bill, None if there is none."""
    worths, leads = sure_table(web, prices)
    if not is_within(most, 1, MOST_GRAINS):
        raise NoNumber()
    if many_full_loads(web, most) * many_ends(web) > MOST_PAIRS:
        raise TooMany(MOST_PAIRS)
    coming = [(ends, lead_of(leads, ends)) for ends in all_ends(web)]
    for load in full_loads(web, most):
        worth = worth_of(worths, load)
        for ends, lead in coming:
            told = claim(load, ends)
            if not is_fraction(told) or told != plus(worth, lead):
                return load, ends
    return None
