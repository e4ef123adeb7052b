"""Rounds of houses that make any load full, and the plays in which houses follow told diaries.

If each house makes closed walks, and at last a way to the step that it has in a forest, then it does
not matter in which order the houses deal: each load that goes with these walks is played out.
"""

from lastdoors.plays import counted
from lastdoors.walks import load_of_counts, ways_out
from lastdoors.webs import pair_of, steps


def tails_of(web, forest):
    """Tell for each house a way from standing 0 to its step in a forest, this step the last one."""
    return [(*ways_out(web, step[0])[step[1]], step) for step in forest]


def load_of_tails(web, tails):
    """Tell the load that goes with a tail of each house: perhaps below 0 in some."""
    return load_of_counts(web, counted([step for tail in tails for step in tail]))


def fillers(web):
    """Tell for each house a closed walk of it, a dict in which each one leads on.

    Some door of each walk leads to a cup or to a house ahead of it in the dict, so that, made often
    enough, the walks come to any load. Those of which most leads there need to be made least often.
    """
    found = {}
    while len(found) < len(web.dealers):
        most, best = 0, ()
        for house in range(len(web.dealers)):
            if house not in found:
                home, walk = _homeward(web, house, found)
                if _is_better(home, walk, most, best):
                    most, best = home, walk
        found[best[0][0]] = best
    return found


def _homeward(web, house, homes):
    """Tell how many doors of a closed walk lead to cups and homes, and the walk: as large a part as can be.

    Within twice as many steps as there are standings some walk goes by each step.
    """
    dealer = web.dealers[house]
    ways = {0: (0, ())}
    most, best = 0, ()
    for _ in range(2 * len(dealer)):
        ways = _ways_on(dealer, house, homes, ways)
        home, walk = ways.get(0, (0, ()))
        if _is_better(home, walk, most, best):
            most, best = home, walk
    return most, best


def _is_better(home, walk, most, best):
    """Judge whether doors home are a larger part of a walk than those of the best walk, if there is one."""
    if best == ():
        return home > 0
    return home * len(best) > most * len(walk)


def _ways_on(dealer, house, homes, ways):
    """Tell for each standing the best way to it of one step more: a pair of doors home and steps."""
    longer = {}
    for standing, (home, way) in ways.items():
        for number, (door, after) in enumerate(dealer[standing]):
            many = home + 1 if door < 0 or door in homes else home
            if after not in longer or many > longer[after][0]:
                longer[after] = (many, (*way, (house, standing, number)))
    return longer


def add_to(load, more, many):
    """Add to a load another one so many times: the load is changed."""
    for house, grains in enumerate(more):
        load[house] += many * grains


def filled(web, rounds, load):
    """Make a load full by fillers, and tell for each house how often it needs its own: the load is changed."""
    gains = {house: load_of_counts(web, counted(walk)) for house, walk in rounds.items()}
    needed = {house: 0 for house in rounds}
    while min(load) < 1:
        for house, gain in gains.items():
            if load[house] < 1:
                many = -((load[house] - 1) // gain[house])
                needed[house] += many
                add_to(load, gain, many)
    return needed


def written(walked, tails):
    """Tell for each house its steps: walks so often as pairs (walk, multiple) tell, and then its tail."""
    diaries = [[] for _ in tails]
    for walk, many in walked:
        diaries[walk[0][0]].extend(list(walk) * many)
    for house, tail in enumerate(tails):
        diaries[house].extend(list(tail))
    return diaries


def dealt(web, load, diaries):
    """Tell the moves in which each house takes the steps of its diary in order, as far as grains come in."""
    told = {step: ((step[0], step[2]), pair_of(web, step)[0]) for step in steps(web)}
    waiting = list(load)
    places = [0] * len(load)
    moves = []
    before = -1
    while len(moves) > before:
        before = len(moves)
        for house, diary in enumerate(diaries):
            while waiting[house] > 0 and places[house] < len(diary):
                move, door = told[diary[places[house]]]
                places[house] += 1
                waiting[house] -= 1
                if door >= 0:
                    waiting[door] += 1
                moves.append(move)
    return tuple(moves)
