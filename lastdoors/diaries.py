"""Walks of one dealer, diaries of all houses, and the plays that follow them."""

from math import factorial

from lastdoors.determinants import determinant
from lastdoors.errors import NoCounts, NoDiaries, NoHouse, NoStep
from lastdoors.filling import dealt
from lastdoors.forests import grown_forest, is_forest
from lastdoors.kinds import is_below, is_tuple_of, is_within
from lastdoors.plays import is_number
from lastdoors.walks import load_of_counts
from lastdoors.webs import is_step, pair_of, steps, steps_of

MOST_COUNTED = 60
LONGEST_WALK = 2000


def _are_counts(web, thing):
    """Judge whether a thing is counts: a dict from some steps to integers within the bounds."""
    if not isinstance(thing, dict):
        return False
    return all([is_step(web, step) and is_within(many, 0, MOST_COUNTED) for step, many in thing.items()])


def many_walks(web, house, counts, last):
    """Tell how many walks of a house take each step as often as counts tell, and a told step last."""
    if not is_below(house, len(web.dealers)):
        raise NoHouse()
    if not _are_counts(web, counts):
        raise NoCounts()
    if not is_step(web, last) or last[0] != house:
        raise NoStep()
    return _many_to(web, counts, last)


def _many_to(web, counts, last):
    """Tell how many walks for counts take a step of a house last."""
    house, end, number = last
    dealer = web.dealers[house]
    exits = _exits_ahead(web, counts, last)
    if exits[end][number] < 0 or not _is_balanced(dealer, exits, end):
        return 0
    return _many_ways(dealer, exits, end)


def _exits_ahead(web, counts, last):
    """Tell how often the house of a last step takes each step ahead of it: a list for each standing."""
    house, end, number = last
    exits = []
    for standing, pairs in enumerate(web.dealers[house]):
        exits.append([counts.get((house, standing, other), 0) for other in range(len(pairs))])
    exits[end][number] -= 1
    return exits


def _is_balanced(dealer, exits, end):
    """Judge whether a way from standing 0 to an end comes to each standing as often as it goes on from it."""
    left = [0] * len(dealer)
    left[0] += 1
    left[end] -= 1
    for standing, row in enumerate(exits):
        for (_, after), many in zip(dealer[standing], row):
            left[standing] -= many
            left[after] += many
    return all([many == 0 for many in left])


def _many_ways(dealer, exits, end):
    """Tell how many ways there are from standing 0 to an end that take each exit so often, all being balanced.

    At each standing that is come to, but the end, some exit is the last one; these are to lead on to the
    end without a ring. The other exits may be taken in any order: each time the way comes out.
    """
    others = [standing for standing, row in enumerate(exits) if standing != end and sum(row) > 0]
    ways = determinant([_row_of_exits(dealer, exits, standing, others) for standing in others])
    same = 1
    for standing, row in enumerate(exits):
        ways = ways * factorial(sum(row) - 1 if standing in others else sum(row))
        for many in row:
            same = same * factorial(many)
    return ways // same


def _row_of_exits(dealer, exits, standing, others):
    """Tell the exits from a standing at its own place, less those to each standing of some."""
    found = {other: 0 for other in others}
    found[standing] += sum(exits[standing])
    for (_, after), many in zip(dealer[standing], exits[standing]):
        if after in found:
            found[after] -= many
    return [found[other] for other in others]


def many_diaries(web, counts):
    """Tell how many diaries there are for counts: over all forests, the products of the numbers of walks."""
    if not _are_counts(web, counts):
        raise NoCounts()
    rows = []
    for house in range(len(web.dealers)):
        rows.append(load_of_counts(web, {step: _many_to(web, counts, step) for step in steps_of(web, house)}))
    return determinant(rows)


def some_diaries(web, counts):
    """Tell diaries for counts, None if there are none."""
    if not _are_counts(web, counts):
        raise NoCounts()
    choices = []
    for house in range(len(web.dealers)):
        choices.append([step for step in steps_of(web, house) if _many_to(web, counts, step) > 0])
    forest = grown_forest(web, choices)
    if forest is None:
        return None
    return tuple([_walk_to(web, counts, step) for step in forest])


def _walk_to(web, counts, last):
    """Tell a walk for counts that takes a step of a house last, where there is one."""
    dealer = web.dealers[last[0]]
    orders = _orders_to(dealer, _exits_ahead(web, counts, last), last)
    places = [0] * len(dealer)
    walk = []
    standing = 0
    while places[standing] < len(orders[standing]):
        number = orders[standing][places[standing]]
        places[standing] += 1
        walk.append(number)
        standing = dealer[standing][number][1]
    return tuple(walk)


def _orders_to(dealer, exits, last):
    """Tell for each standing an order of its exits, the last ones of which lead on to a last step."""
    _, end, number = last
    homes = _last_exits(dealer, exits, end, number)
    orders = []
    for standing, row in enumerate(exits):
        order = [other for other, many in enumerate(row) for _ in range(many)]
        if standing in homes:
            if standing != end:
                order.remove(homes[standing])
            order.append(homes[standing])
        orders.append(order)
    return orders


def _last_exits(dealer, exits, end, number):
    """Tell for each standing with exits one that leads on to the end, whose own last exit has this number."""
    homes = {end: number}
    growing = True
    while growing:
        growing = False
        for standing, pairs in enumerate(dealer):
            for other, (_, after) in enumerate(pairs):
                if standing not in homes and after in homes and exits[standing][other] > 0:
                    homes[standing] = other
                    growing = True
    return homes


def _walked(web, thing):
    """Tell for each house the list of the steps of its walk from standing 0, None for what is no walks."""
    if not is_tuple_of(thing, len(web.dealers)):
        return None
    found = []
    for house, walk in enumerate(thing):
        if not isinstance(walk, tuple):
            return None
        taken = []
        standing = 0
        for number in walk:
            if not is_number(web, house, standing, number):
                return None
            taken.append((house, standing, number))
            standing = pair_of(web, taken[-1])[1]
        found.append(taken)
    return found


def _counts_walked(web, walks):
    """Tell how often lists of steps take each step of a web."""
    counts = {step: 0 for step in steps(web)}
    for walk in walks:
        for step in walk:
            counts[step] += 1
    return counts


def are_diaries(web, counts, thing):
    """Judge whether a thing is diaries for counts."""
    if not _are_counts(web, counts):
        raise NoCounts()
    walks = _walked(web, thing)
    if walks is None or [] in walks:
        return False
    if any([counts.get(step, 0) != many for step, many in _counts_walked(web, walks).items()]):
        return False
    return is_forest(web, tuple([walk[-1] for walk in walks]))


def load_of(web, counts):
    """Tell for each house the steps from it, less those by doors to it, counted so: perhaps below 0."""
    if not _are_counts(web, counts):
        raise NoCounts()
    return tuple(load_of_counts(web, counts))


def _right_walks(web, diaries):
    """Tell for each house the list of the steps of its walk, or raise NoDiaries."""
    walks = _walked(web, diaries)
    if walks is None or max([len(walk) for walk in walks]) > LONGEST_WALK:
        raise NoDiaries()
    return walks


def counts_of(web, diaries):
    """Tell how often diaries take each step of a web."""
    return _counts_walked(web, _right_walks(web, diaries))


def play_of(web, diaries):
    """Tell a play in which each house takes just the steps of its walk in order, None if there is none."""
    walks = _right_walks(web, diaries)
    load = load_of_counts(web, _counts_walked(web, walks))
    if min(load) < 0:
        return None
    moves = dealt(web, load, walks)
    if len(moves) < sum([len(walk) for walk in walks]):
        return None
    return moves
