"""Plays of one load whose bills are as far apart as one likes.

Each house makes closed walks, and at last a tail: a way to the step that it has in a forest. Then it
does not matter in which order the houses deal: each load that goes with these walks is played out.
"""

from lastdoors.errors import NoGap, NoPrices
from lastdoors.forests import grown_forest
from lastdoors.kinds import is_within
from lastdoors.plays import counted, deal
from lastdoors.prices import are_prices
from lastdoors.walks import PricedWalks, load_of_counts, ways_out
from lastdoors.webs import pair_of, steps

MOST_GAP = 5


def far_apart(web, prices, gap):
    """Tell a full load and two plays of it, the bill of the one greater by a gap; None if none are."""
    if not are_prices(web, prices):
        raise NoPrices()
    if not is_within(gap, 0, MOST_GAP):
        raise NoGap()
    closed = PricedWalks(web, prices)
    telling = closed.telling()
    if not telling:
        return None
    tails = _tails(web)
    fillers = _fillers(web, closed.walks)
    plans = [_plan(web, closed, _sides(closed, relation, gap), tails, fillers) for relation in telling]
    _, load, one, other = min(plans, key=lambda plan: plan[0])
    plays = [_dealt(web, load, _diaries(closed.walks, walked, tails)) for walked in (one, other)]
    return tuple(load), plays[0], plays[1]


def _tails(web):
    """Tell for each house a way from standing 0 to its step in a forest, this step the last one."""
    choices = [[] for _ in web.dealers]
    for step in steps(web):
        choices[step[0]].append(step)
    tails = []
    for step in grown_forest(web, choices):
        way = ways_out(web, step[0])[step[1]]
        tails.append((*way, step))
    return tails


def _fillers(web, walks):
    """Tell for each house the place of a closed walk of it, a dict in which each one leads on.

    Some door of each walk leads to a cup or to a house ahead of it in the dict, so that, made often
    enough, the walks come to any load. Those of which most leads there need to be made least often.
    """
    fillers = {}
    while len(fillers) < len(web.dealers):
        best, best_home, best_size = -1, 0, 1
        for at, walk in enumerate(walks):
            home = _many_home(web, walk, fillers)
            if walk[0][0] not in fillers and home * best_size > best_home * len(walk):
                best, best_home, best_size = at, home, len(walk)
        fillers[walks[best][0][0]] = best
    return fillers


def _many_home(web, walk, houses):
    """Tell how many steps of a walk lead to a cup or to one of the houses."""
    doors = [pair_of(web, step)[0] for step in walk]
    return len([door for door in doors if door < 0 or door in houses])


def _sides(closed, relation, gap):
    """Tell two dicts of multiples of walks of the same load, the one dearer than the other by a gap."""
    top, bottom = closed.cost(relation)
    sign = 1 if top > 0 else -1
    # At least once, as the one is to be dearer for no gap, too; else the gap by the cost, rounded up.
    often = max(1, -(-gap * bottom // (sign * top)))
    one = {at: sign * often * many for at, many in relation.items() if sign * many > 0}
    other = {at: -sign * often * many for at, many in relation.items() if sign * many < 0}
    return one, other


def _plan(web, closed, sides, tails, fillers):
    """Tell the number of moves of both plays, their load, and the multiples of walks in each."""
    load = [0] * len(web.dealers)
    for tail in tails:
        _add(load, load_of_counts(web, counted(tail)), 1)
    for at, many in sides[0].items():
        _add(load, closed.loads[at], many)
    common = _filled(closed.loads, fillers, load)
    one, other = [_joined(side, common) for side in sides]
    return _many_moves(closed.walks, one) + _many_moves(closed.walks, other), load, one, other


def _add(load, more, many):
    """Add to a load another one so many times: the load is changed."""
    for house, grains in enumerate(more):
        load[house] += many * grains


def _filled(loads, fillers, load):
    """Make a load full by fillers, and tell how often each is needed: the load is changed."""
    needed = {at: 0 for at in fillers.values()}
    while min(load) < 1:
        for house, at in fillers.items():
            if load[house] < 1:
                many = -((load[house] - 1) // loads[at][house])
                needed[at] += many
                _add(load, loads[at], many)
    return needed


def _joined(one, other):
    """Add two dicts of multiples."""
    both = {at: many for at, many in one.items()}
    for at, many in other.items():
        both[at] = both.get(at, 0) + many
    return both


def _many_moves(walks, multiples):
    """Tell how many steps walks have, each walk so often as a dict by their places tells."""
    return sum([len(walks[at]) * many for at, many in multiples.items()])


def _diaries(walks, multiples, tails):
    """Tell for each house the numbers of its steps: walks so often as told, and then its tail."""
    diaries = [[] for _ in tails]
    for at, many in multiples.items():
        house = walks[at][0][0]
        diaries[house].extend([number for _, _, number in walks[at]] * many)
    for house, tail in enumerate(tails):
        diaries[house].extend([number for _, _, number in tail])
    return diaries


def _dealt(web, load, diaries):
    """Tell the moves of the play in which each house takes the numbers of its diary in order."""
    waiting = list(load)
    stands = [0] * len(load)
    cups = [0] * web.cups
    dealt = [0] * len(load)
    moves = []
    while sum(waiting) > 0:
        for house, diary in enumerate(diaries):
            while waiting[house] > 0 and dealt[house] < len(diary):
                step = (house, stands[house], diary[dealt[house]])
                dealt[house] += 1
                moves.append((house, step[2]))
                deal(web, step, waiting, stands, cups)
    return tuple(moves)
