"""Which ends fit which loads, told by numbers of steps; and witnesses where they do not."""

from lastdoors.amounts import NOTHING, less, plus, together
from lastdoors.errors import NoEnds, NoLoad, NoNumber, TooMany
from lastdoors.forests import check_few_ends
from lastdoors.kinds import is_within
from lastdoors.lattices import whole_off
from lastdoors.matching import Matching
from lastdoors.plays import are_ends, full_loads, is_load, many_full_loads
from lastdoors.tables import is_shaped, lead_of, worth_of
from lastdoors.walks import are_counts_of_all, balance_of, load_of_counts
from lastdoors.webs import pair_of, steps

MOST_GRAINS = 6
MOST_LOADS = 20000


def _check(web, load, ends):
    """Raise the error for what is no load or no ends."""
    if not is_load(web, load):
        raise NoLoad()
    if not are_ends(web, ends):
        raise NoEnds()


def fits(web, load, ends):
    """Judge whether ends fit a load."""
    _check(web, load, ends)
    return Matching(web).is_fit(load, ends)


def numbers_for(web, load, ends):
    """Tell how often to count each step, so that ends fit a load, None if they do not."""
    _check(web, load, ends)
    matching = Matching(web)
    if not matching.is_fit(load, ends):
        return None
    return matching.counts(load, ends)


def are_numbers(web, load, ends, thing):
    """Judge whether a thing tells how often to count each step, so that ends fit a load."""
    _check(web, load, ends)
    if not are_counts_of_all(web, thing):
        return False
    if tuple(load_of_counts(web, thing)) != load:
        return False
    for (house, standing), many in balance_of(web, thing).items():
        arrived = 1 if standing == ends[house] else 0
        begun = 1 if standing == 0 else 0
        if many != arrived - begun:
            return False
    return True


def witness(web, load, ends):
    """Tell worths and leads by which ends do not fit a load, None if they fit."""
    _check(web, load, ends)
    matching = Matching(web)
    worths = matching.lattice.barring(matching.open_load(load, ends))
    if worths is None:
        return None
    leads = [_leads(web, worths, ways) for ways in matching.ways]
    return tuple(worths), tuple(leads)


def _leads(web, worths, ways):
    """Tell the leads of all standings of a house, but for integers, by a way to each."""
    leads = []
    for standing in range(len(ways)):
        leads.append(whole_off(together([_loss(web, worths, step) for step in ways[standing]])))
    return tuple(leads)


def _loss(web, worths, step):
    """Tell the worth of the door of a step less that of its house: 0 for a cup."""
    door = pair_of(web, step)[0]
    behind = worths[door] if door >= 0 else NOTHING
    return less(behind, worths[step[0]])


def is_witness(web, load, ends, thing):
    """Judge whether a thing is worths and leads by which ends do not fit a load."""
    _check(web, load, ends)
    if not is_shaped(web, thing):
        return False
    worths, leads = thing
    if not all([0 <= top < bottom for row in (worths, *leads) for top, bottom in row]):
        return False
    for step in steps(web):
        row = leads[step[0]]
        gain = less(row[pair_of(web, step)[1]], row[step[1]])
        if not _is_whole(less(gain, _loss(web, worths, step))):
            return False
    return not _is_whole(plus(worth_of(worths, load), lead_of(leads, ends)))


def _is_whole(amount):
    """Judge whether a fraction is an integer."""
    return amount[1] == 1


def fitting_ends(web, load):
    """Tell all ends that fit a load and to which there is a forest, ascending."""
    if not is_load(web, load):
        raise NoLoad()
    check_few_ends(web)
    return Matching(web).ends_for(load)


def fitting_loads(web, ends, most):
    """Tell all full loads with at most so many grains in each house that ends fit, ascending."""
    if not are_ends(web, ends):
        raise NoEnds()
    if not is_within(most, 1, MOST_GRAINS):
        raise NoNumber()
    if many_full_loads(web, most) > MOST_LOADS:
        raise TooMany(MOST_LOADS)
    matching = Matching(web)
    rest = matching.lattice.rest(matching.load_to(ends))
    return [load for load in full_loads(web, most) if matching.lattice.rest(load) == rest]
