"""What comes of classes of loads that are put together: multiples, opposites, divisors."""

from math import gcd

from lastdoors.classes import lattice_of
from lastdoors.errors import NoLoad
from lastdoors.lattices import Lattice
from lastdoors.plays import is_load


def times_home(web, load):
    """Tell how many times at least a load is alike to no grains, once or more."""
    lattice = lattice_of(web)
    if not is_load(web, load):
        raise NoLoad()
    times = 1
    left = lattice.rest(load)
    for place, size in enumerate(lattice.sizes()):
        # All places ahead are 0 now, and stay so: multiples have to make this one 0, too.
        many = size // gcd(size, left[place])
        times = times * many
        left = lattice.rest([many * number for number in left])
    return times


def opposite(web, load):
    """Tell the reduced tuple that, together with a load, is alike to no grains."""
    lattice = lattice_of(web)
    if not is_load(web, load):
        raise NoLoad()
    return lattice.rest([-grains for grains in load])


def divisors(web):
    """Tell the integers from 2 on, each dividing the next one, by which classes fall into rings."""
    lattice = lattice_of(web)
    rows = _rows_of(lattice)
    while not _is_diagonal(rows):
        rows = _rows_of(Lattice([[row[place] for row in rows] for place in range(len(rows))]))
    numbers = [row[place] for place, row in enumerate(rows)]
    for one in range(len(numbers)):
        for other in range(one + 1, len(numbers)):
            common = gcd(numbers[one], numbers[other])
            numbers[other] = numbers[one] * numbers[other] // common
            numbers[one] = common
    return tuple([number for number in numbers if number > 1])


def _rows_of(lattice):
    """Tell the lists of the rows of a lattice."""
    return [row for row, _ in lattice.rows]


def _is_diagonal(rows):
    """Judge whether each row is 0 but at its own place."""
    return all([number == 0 or at == place for place, row in enumerate(rows) for at, number in enumerate(row)])
