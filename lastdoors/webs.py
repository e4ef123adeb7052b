"""Webs of dealers: houses, doors, standings and steps."""

from lastdoors.errors import BadWeb, NoDoor, NoHouse, NoStep
from lastdoors.kinds import are_integers, is_ascending, is_below, is_tuple_of, is_within

MOST_CUPS = 6
MOST_HOUSES = 8
MOST_STANDINGS = 8
MOST_STEPS = 6


class Web:
    """A right web: a number of cups, and a dealer for each house."""

    def __init__(self, cups, dealers):
        _check(cups, dealers)
        self.cups = cups
        self.dealers = dealers

    def __eq__(self, other):
        return isinstance(other, Web) and self.cups == other.cups and self.dealers == other.dealers


def _check(cups, dealers):
    """Raise BadWeb with the first fault, in the order of the parts."""
    if not is_within(cups, 1, MOST_CUPS):
        raise BadWeb("cups", -1)
    if not isinstance(dealers, tuple) or not 1 <= len(dealers) <= MOST_HOUSES:
        raise BadWeb("dealers", -1)
    for house, dealer in enumerate(dealers):
        if not _is_dealer(dealer, cups, len(dealers)):
            raise BadWeb("dealers", house)
    for house, dealer in enumerate(dealers):
        if not _is_joined(dealer):
            raise BadWeb("apart", house)
    arrows = [doors_of(dealer) for dealer in dealers]
    for house in range(len(dealers)):
        if all([door >= 0 for door in reached(arrows, house)]):
            raise BadWeb("lost", house)


def _is_dealer(thing, cups, houses):
    """Judge whether a thing is a dealer with doors to so many cups and houses."""
    if not isinstance(thing, tuple) or not 1 <= len(thing) <= MOST_STANDINGS:
        return False
    return all([_is_standing(standing, cups, houses, len(thing)) for standing in thing])


def _is_standing(thing, cups, houses, standings):
    """Judge whether a thing is a standing of a dealer with so many standings."""
    if not isinstance(thing, tuple) or not 1 <= len(thing) <= MOST_STEPS:
        return False
    # Only pairs of integers may be compared, so their kind is asked first.
    if not all([is_tuple_of(pair, 2) and are_integers(pair) for pair in thing]):
        return False
    if not all([-cups <= door < houses and 0 <= after < standings for door, after in thing]):
        return False
    return is_ascending(thing)


def _is_joined(dealer):
    """Judge whether steps lead on from each standing to each other one."""
    arrows = [[after for _, after in standing] for standing in dealer]
    for standing in range(len(dealer)):
        found = reached(arrows, standing)
        if not all([other in found for other in range(len(dealer)) if other != standing]):
            return False
    return True


def doors_of(dealer):
    """Tell the doors of all steps of a dealer, ascending, each once."""
    return sorted({door for standing in dealer for door, _ in standing})


def reached(arrows, start):
    """Tell where arrows lead from a start, by one or more, ascending; ends below 0 have no arrows."""
    found = {}
    waiting = [start]
    while waiting:
        place = waiting.pop()
        for end in arrows[place]:
            if end not in found:
                found[end] = True
                if end >= 0:
                    waiting.append(end)
    return sorted(found)


def steps(web):
    """Tell all steps (house, standing, number) of a web, ascending."""
    return [step for house in range(len(web.dealers)) for step in steps_of(web, house)]


def steps_of(web, house):
    """Tell all steps of a house, ascending."""
    dealer = web.dealers[house]
    return [(house, standing, number) for standing, pairs in enumerate(dealer) for number in range(len(pairs))]


def is_step(web, thing):
    """Judge whether a thing is a step of a web."""
    if not (is_tuple_of(thing, 3) and is_below(thing[0], len(web.dealers))):
        return False
    dealer = web.dealers[thing[0]]
    return is_below(thing[1], len(dealer)) and is_below(thing[2], len(dealer[thing[1]]))


def pair_of(web, step):
    """Tell the pair (door, next standing) of a right step."""
    house, standing, number = step
    return web.dealers[house][standing][number]


def door_of(web, step):
    """Tell the door of a step."""
    if not is_step(web, step):
        raise NoStep()
    return pair_of(web, step)[0]


def next_of(web, step):
    """Tell the next standing of a step."""
    if not is_step(web, step):
        raise NoStep()
    return pair_of(web, step)[1]


def into(web, door):
    """Tell all steps with a door, ascending."""
    if not is_within(door, -web.cups, len(web.dealers) - 1):
        raise NoDoor()
    return [step for step in steps(web) if pair_of(web, step)[0] == door]


def leads_on(web, house):
    """Tell the houses to which doors lead on from a house, ascending."""
    if not is_below(house, len(web.dealers)):
        raise NoHouse()
    arrows = [doors_of(dealer) for dealer in web.dealers]
    return [end for end in reached(arrows, house) if end >= 0]
