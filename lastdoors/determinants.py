"""Determinants of rows by which trees of steps are counted.

At its own place each row holds 0 or more, elsewhere 0 or less, and all of it comes to 0 or more. So the
determinant is the sum, over all ways to choose a step of each row such that none closes a ring, of the
products of what the steps count.
"""


def determinant(rows):
    """Tell the determinant of such rows, all divisions being without a rest."""
    left = rows
    before = 1
    while left:
        first = left[0]
        if first[0] == 0:
            # Elsewhere the row never holds more below 0 than it holds at its own place: so all of it is 0.
            return 0
        left = [_shortened(first, row, before) for row in left[1:]]
        before = first[0]
    return before


def _shortened(first, row, before):
    """Tell a row without its first place, made 0 by the first row; the pivot before divides all."""
    return [(first[0] * row[k] - row[0] * first[k]) // before for k in range(1, len(row))]
