"""Which loads of a web without choices come to the same."""

from lastdoors.errors import NoLoad, NotFixed, TooMany
from lastdoors.matching import Matching
from lastdoors.plays import is_load
from lastdoors.settling import is_fixed

MOST_CLASSES = 20000


def lattice_of(web):
    """Tell the lattice of a web without choices, or raise NotFixed."""
    return _matching_of(web).lattice


def _matching_of(web):
    """Tell what ends go with loads of a web without choices, or raise NotFixed."""
    if not is_fixed(web):
        raise NotFixed()
    return Matching(web)


def alike_loads(web, one, other):
    """Judge whether loads differ by a tuple of the lattice."""
    lattice = lattice_of(web)
    if not is_load(web, one) or not is_load(web, other):
        raise NoLoad()
    return lattice.rest(one) == lattice.rest(other)


def reduced(web, load):
    """Tell the least tuple of integers from 0 on that is alike to a load."""
    lattice = lattice_of(web)
    if not is_load(web, load):
        raise NoLoad()
    return lattice.rest(load)


def many_classes(web):
    """Tell the number of classes of alike loads."""
    many = 1
    for size in lattice_of(web).sizes():
        many = many * size
    return many


def classes(web):
    """Tell all reduced tuples, ascending."""
    if many_classes(web) > MOST_CLASSES:
        raise TooMany(MOST_CLASSES)
    found = [()]
    for size in lattice_of(web).sizes():
        found = [(*begun, number) for begun in found for number in range(size)]
    return found


def ends_of_class(web, load):
    """Tell the ends of the full loads that are alike to a load."""
    matching = _matching_of(web)
    if not is_load(web, load):
        raise NoLoad()
    return matching.ends_for(load)[0]
