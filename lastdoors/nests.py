"""Forests that are heaviest for any integers as weights, and nests that bar heavier ones."""

from lastdoors.webs import pair_of, reached, steps


def best_forest(web, weights):
    """Tell a heaviest forest, and a nest whose bound is its weight, for weights of any size.

    Where the heaviest steps of the houses of a lot lead on to one another alone, some house of it has
    to take a lighter one. A z of this lot brings the first steps that leave it up to the heaviest ones.
    When all houses are led on to cups, each step is as heavy as its house's heaviest, but for such z;
    and each lot of the nest is to be left by one step of the forest.
    """
    sums = {step: weights.get(step, 0) for step in steps(web)}
    tops = [max([many for step, many in sums.items() if step[0] == house]) for house in range(len(web.dealers))]
    turns = {step: 0 for step, many in sums.items() if many == tops[step[0]]}
    nest = []
    lot = _closed_lot(web, turns)
    while lot:
        leaving = [step for step in sums if step[0] in lot and leaves(web, step, lot)]
        z = min([tops[step[0]] - sums[step] for step in leaving])
        nest.append((lot, z))
        for step in leaving:
            sums[step] += z
            if sums[step] == tops[step[0]]:
                turns[step] = len(nest)
        lot = _closed_lot(web, turns)
    return _first_forest(web, turns), tuple(nest)


def leaves(web, step, lot):
    """Judge whether the door of a step leads to a cup or to a house that is not in a lot."""
    return pair_of(web, step)[0] not in lot


def _closed_lot(web, turns):
    """Tell the lot of houses that are led on to one another alone by some steps, () if there is none."""
    arrows = [[] for _ in web.dealers]
    for step in turns:
        arrows[step[0]].append(pair_of(web, step)[0])
    lots = [reached(arrows, house) for house in range(len(arrows))]
    closed = [lot for lot in lots if lot[0] >= 0]
    # In the shortest one each house leads on to all: else one of them led on to fewer.
    return tuple(min(closed, key=len)) if closed else ()


def _first_forest(web, turns):
    """Tell the forest of the steps that had the first turns.

    A lot of the nest is strongly joined by steps of turns ahead of those that leave it. So, once a
    house of it is in the forest, the others follow inside the lot.
    """
    forest = {}
    while len(forest) < len(web.dealers):
        ready = [(turn, step) for step, turn in turns.items() if step[0] not in forest and _is_home(web, step, forest)]
        _, step = min(ready)
        forest[step[0]] = step
    return tuple([forest[house] for house in range(len(web.dealers))])


def _is_home(web, step, houses):
    """Judge whether the door of a step leads to a cup or to one of the houses."""
    door = pair_of(web, step)[0]
    return door < 0 or door in houses
