"""How many forests there are, and which one has which number.

The number of forests is a determinant: at each house the number of its steps, less, at the house of
each door, the number of its steps with this door.
"""

from lastdoors.determinants import determinant
from lastdoors.errors import NoForest, NoNumber
from lastdoors.forests import is_forest
from lastdoors.kinds import is_below
from lastdoors.plays import counted
from lastdoors.walks import load_of_counts
from lastdoors.webs import pair_of, steps_of


def many_forests(web):
    """Tell the number of all forests."""
    return determinant(_rows_behind(web, 0))


def forest_at(web, number):
    """Tell the forest with a number, all of them being ascending."""
    if not is_below(number, many_forests(web)):
        raise NoNumber()
    forest = []
    left = number
    for house in range(len(web.dealers)):
        for step, many in _numbers_on(web, forest):
            if left < many:
                break
            left -= many
        forest.append(step)
    return tuple(forest)


def forest_number(web, forest):
    """Tell the number of a forest, all of them being ascending."""
    if not is_forest(web, forest):
        raise NoForest()
    number = 0
    for house, chosen in enumerate(forest):
        number += sum([many for step, many in _numbers_on(web, forest[:house]) if step < chosen])
    return number


def _numbers_on(web, begun):
    """Tell for each step of the next house, ascending, how many forests begin so and go on with it."""
    house = len(begun)
    ahead = [_row(web, [step]) for step in begun]
    behind = _rows_behind(web, house + 1)
    numbers = {}
    found = []
    for step in steps_of(web, house):
        door = pair_of(web, step)[0]
        if door not in numbers:
            numbers[door] = determinant(ahead + [_row(web, [step])] + behind)
        found.append((step, numbers[door]))
    return found


def _rows_behind(web, house):
    """Tell the rows of all steps of each house from a house on."""
    return [_row(web, steps_of(web, other)) for other in range(house, len(web.dealers))]


def _row(web, chosen):
    """Tell the row of some steps of a house: their number there, less those to each house."""
    return load_of_counts(web, counted(chosen))
