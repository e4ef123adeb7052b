"""Lattices: all sums, with integers of any sign, of lists of integers.

A row is a pair: a list of integers, and the dict of the multiples of the given lists, by their places,
that come together to this list.
"""

from lastdoors.amounts import NOTHING, divided, plus, times


class Lattice:
    """All sums of lists that span as many places as they have.

    For each place there is a row that is 0 ahead of it and above 0 at it; at the places behind it is
    less than their rows are there.
    """

    def __init__(self, lists):
        basis = {}
        for at, numbers in enumerate(lists):
            # Most lists of a large web are sums of others, and those need no multiples.
            if not _is_nothing(_left_over(basis, numbers)):
                _join(basis, (list(numbers), {at: 1}))
                _tidy(basis)
        self.rows = [basis[place] for place in sorted(basis)]

    def rest(self, numbers):
        """Tell the least tuple of integers from 0 on that differs from numbers by a sum."""
        left = list(numbers)
        for place, (row, _) in enumerate(self.rows):
            many = left[place] // row[place]
            if many != 0:
                left = [a - many * b for a, b in zip(left, row)]
        return tuple(left)

    def multiples(self, numbers):
        """Tell the dict of multiples of the given lists that come to numbers less their rest."""
        row = (list(numbers), {})
        for place, other in enumerate(self.rows):
            row = _minus(row, other, row[0][place] // other[0][place])
        return {at: -many for at, many in row[1].items()}

    def sizes(self):
        """Tell for each place below which number rests are there: any such numbers are a rest."""
        return [row[place] for place, (row, _) in enumerate(self.rows)]

    def barring(self, numbers):
        """Tell fractions from 0 on below 1 by which all sums come to integers, but numbers do not.

        None if numbers are a sum themselves.
        """
        left = self.rest(numbers)
        if _is_nothing(left):
            return None
        last = [place for place, number in enumerate(left) if number != 0][0]
        # At this place numbers are no multiple of the row: so its part decides, and rows behind come to 0.
        found = [NOTHING] * len(left)
        found[last] = _part((1, 1), self.rows[last][0][last])
        for place in range(last - 1, -1, -1):
            row = self.rows[place][0]
            total = NOTHING
            for other in range(place + 1, last + 1):
                total = plus(total, times(found[other], row[other]))
            found[place] = _part(times(total, -1), row[place])
        return found


def _part(amount, many):
    """Tell a fraction divided by an integer, but for whole numbers."""
    return whole_off(divided(amount, many))


def whole_off(amount):
    """Tell the fraction from 0 on below 1 that differs from a fraction by an integer."""
    return amount[0] % amount[1], amount[1]


def _is_nothing(numbers):
    """Judge whether all numbers are 0."""
    return all([number == 0 for number in numbers])


def _minus(row, other, many):
    """Take another row so many times from a row."""
    if many == 0:
        return row
    numbers = [a - many * b for a, b in zip(row[0], other[0])]
    multiples = {at: often for at, often in row[1].items()}
    for at, often in other[1].items():
        multiples[at] = multiples.get(at, 0) - many * often
    return numbers, {at: often for at, often in multiples.items() if often != 0}


def _left_over(basis, numbers):
    """Tell what is left of numbers when rows of a basis, a dict by places, are taken from them."""
    left = list(numbers)
    for place in sorted(basis):
        row = basis[place][0]
        many = left[place] // row[place]
        left = [a - many * b for a, b in zip(left, row)]
    return left


def _join(basis, row):
    """Make a row a sum of a basis, too: the basis is changed."""
    for place in range(len(row[0])):
        if row[0][place] != 0:
            if place not in basis:
                sign = 1 if row[0][place] > 0 else -1
                basis[place] = _minus(([0] * len(row[0]), {}), row, -sign)
                return
            basis[place], row = _divided_by_turns(basis[place], row, place)


def _divided_by_turns(one, other, place):
    """Tell rows that span the same: at a place the one has the greatest common divisor, the other 0."""
    other = _minus(other, one, other[0][place] // one[0][place])
    while other[0][place] != 0:
        one, other = other, _minus(one, other, one[0][place] // other[0][place])
    return one, other


def _tidy(basis):
    """Make each row of a basis less than the others at their places: the basis is changed."""
    places = sorted(basis)
    for place in places:
        for other in places:
            if other > place:
                many = basis[place][0][other] // basis[other][0][other]
                basis[place] = _minus(basis[place], basis[other], many)
