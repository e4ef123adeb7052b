"""Webs without choices: to what all plays of a load come, however great it is."""

from lastdoors.errors import NoLoad, NotFixed
from lastdoors.matching import Matching
from lastdoors.plays import is_load
from lastdoors.webs import Web, pair_of


def is_fixed(thing):
    """Judge whether a thing is a web in which each standing has one step."""
    if not isinstance(thing, Web):
        return False
    return all([len(pairs) == 1 for dealer in thing.dealers for pairs in dealer])


def settled(web, load):
    """Tell the pair (ends, cups) to which each play of a load comes."""
    ends, counts = _played_out(web, load)
    cups = [0] * web.cups
    for step, many in counts.items():
        door = pair_of(web, step)[0]
        if door < 0:
            cups[-1 - door] += many
    return ends, tuple(cups)


def often(web, load):
    """Tell how many grains go out of each house in each play of a load."""
    _, counts = _played_out(web, load)
    out = [0] * len(load)
    for step, many in counts.items():
        out[step[0]] += many
    return tuple(out)


def _played_out(web, load):
    """Tell the ends of each play of a load, and how often it takes the steps that it takes.

    Houses that grains reach are found by and by: as long as those outside of them are taken for cups,
    grains that lie there in the end tell which ones come to them.
    """
    if not is_fixed(web):
        raise NotFixed()
    if not is_load(web, load):
        raise NoLoad()
    inside = []
    met = [house for house, grains in enumerate(load) if grains > 0]
    ends, counts = (0,) * len(load), {}
    while len(met) > len(inside):
        inside = met
        ends, counts = _played_inside(web, load, inside)
        doors = {pair_of(web, step)[0]: True for step, many in counts.items() if many > 0}
        met = [house for house in range(len(load)) if house in inside or house in doors]
    return ends, counts


def _played_inside(web, load, inside):
    """Tell ends and counts where a play of a load reaches all of some houses, and the others are cups.

    As each of these houses deals, the doors of last steps lead out of them. So the ends are those of a
    forest; and just one forest has ends that fit the load.
    """
    matching = Matching(_cut_out(web, inside))
    grains = [load[house] for house in inside]
    last = matching.ends_for(grains)[0]
    ends = [0] * len(load)
    for house, end in zip(inside, last):
        ends[house] = end
    counts = {}
    for (house, standing, number), many in matching.counts(grains, last).items():
        counts[(inside[house], standing, number)] = many
    return tuple(ends), counts


def _cut_out(web, inside):
    """Make the web of some houses of a fixed web, in which one cup takes what leaves them."""
    places = {house: place for place, house in enumerate(inside)}
    dealers = []
    for house in inside:
        pairs = [standing[0] for standing in web.dealers[house]]
        dealers.append(tuple([((places.get(door, -1), after),) for door, after in pairs]))
    return Web(1, tuple(dealers))
