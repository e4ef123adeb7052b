"""Forests of last doors, and the ends that they leave."""

from lastdoors.errors import NoEnds, TooMany
from lastdoors.kinds import is_tuple_of
from lastdoors.plays import are_ends
from lastdoors.webs import is_step, pair_of, steps

MOST_ENDS = 20000


def is_forest(web, thing):
    """Judge whether a thing is a step of each house, in order, whose doors lead on to cups."""
    if not is_tuple_of(thing, len(web.dealers)):
        return False
    for house, step in enumerate(thing):
        if not is_step(web, step) or step[0] != house:
            return False
    return grown_forest(web, [[step] for step in thing]) is not None


def grown_forest(web, choices):
    """Tell a forest of steps out of a list of such for each house, None if there is none.

    A house whose step leads to a cup, or to a house that is in the forest, cannot be wrong in it.
    """
    forest = {}
    growing = True
    while growing:
        growing = False
        for house, chosen in enumerate(choices):
            if house not in forest:
                step = _first_home(web, chosen, forest)
                if step is not None:
                    forest[house] = step
                    growing = True
    if len(forest) < len(choices):
        return None
    return tuple([forest[house] for house in range(len(choices))])


def _first_home(web, chosen, forest):
    """Tell the first step of a list that leads to a cup or to a house of a forest, or None."""
    for step in chosen:
        door = pair_of(web, step)[0]
        if door < 0 or door in forest:
            return step
    return None


def steps_behind(web):
    """Tell for each house and each standing of it the steps that lead to this standing."""
    behind = [[[] for _ in dealer] for dealer in web.dealers]
    for step in steps(web):
        behind[step[0]][pair_of(web, step)[1]].append(step)
    return behind


def _forest_to(web, behind, ends):
    """Tell a forest of the steps that lead to these ends, None if there is none."""
    return grown_forest(web, [rows[end] for rows, end in zip(behind, ends)])


def forest_for(web, ends):
    """Tell a forest whose next standings are these ends, None if there is none."""
    if not are_ends(web, ends):
        raise NoEnds()
    return _forest_to(web, steps_behind(web), ends)


def can_end(web, ends):
    """Judge whether the next standings of some forest are these ends."""
    return forest_for(web, ends) is not None


def many_ends(web):
    """Tell how many tuples with a standing of each house there are."""
    many = 1
    for dealer in web.dealers:
        many = many * len(dealer)
    return many


def check_few_ends(web):
    """Raise TooMany where there are too many tuples with a standing of each house."""
    if many_ends(web) > MOST_ENDS:
        raise TooMany(MOST_ENDS)


def every_ends(web):
    """Tell all tuples with a standing of each house, ascending, or raise TooMany."""
    check_few_ends(web)
    found = [()]
    for dealer in web.dealers:
        found = [(*ends, standing) for ends in found for standing in range(len(dealer))]
    return found


def all_ends(web):
    """Tell all ends for which there is a forest, ascending."""
    behind = steps_behind(web)
    return [ends for ends in every_ends(web) if _forest_to(web, behind, ends) is not None]
