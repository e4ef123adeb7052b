"""Which multiples of tuples of integers come to nothing, or to multiples of units.

A row is a pair: a list of integers, and the dict of the multiples of the given tuples, by their
places, that come together to this list.
"""

from lastdoors.amounts import greatest_divisor


def related(loads):
    """Tell the pair of units and relations of a list of lists of integers that span all.

    Units are, for each place, a row whose list is not 0 at this place alone. Relations are a list of
    dicts of multiples that come to nothing; with multiples they come to each one that does.
    """
    basis = {}
    relations = []
    for at, load in enumerate(loads):
        row = _reduced((list(load), {at: 1}), basis)
        first = _first_place(row[0])
        if first is None:
            relations.append(row[1])
        else:
            basis[first] = row
    units = {}
    for place in sorted(basis, reverse=True):
        units[place] = _reduced(basis[place], units)
    return [units[place] for place in sorted(units)], relations


def _first_place(numbers):
    """Tell the first place of a list where it is not 0, None if there is none."""
    for place, number in enumerate(numbers):
        if number != 0:
            return place
    return None


def _reduced(row, basis):
    """Make a row 0 at the first places of all rows of a basis, which is a dict by these."""
    # Ascending, as a row of the basis is 0 ahead of its first place and so spoils none that is done.
    for place in sorted(basis):
        if row[0][place] != 0:
            row = _without(row, basis[place], place)
    return row


def _without(row, other, place):
    """Make a row 0 at a place by multiples of it and of another one, as small as can be."""
    one, two = other[0][place], row[0][place]
    numbers = [one * a - two * b for a, b in zip(row[0], other[0])]
    multiples = {at: one * many for at, many in row[1].items()}
    for at, many in other[1].items():
        multiples[at] = multiples.get(at, 0) - two * many
    common = greatest_divisor(list(multiples.values()))
    smaller = {at: many // common for at, many in multiples.items() if many != 0}
    return [number // common for number in numbers], smaller
