"""Plays of one load whose bills are as far apart as one likes."""

from lastdoors.errors import NoGap, NoPrices
from lastdoors.filling import add_to, dealt, filled, fillers, load_of_tails, tails_of, written
from lastdoors.forests import grown_forest
from lastdoors.kinds import is_within
from lastdoors.prices import are_prices
from lastdoors.walks import PricedWalks
from lastdoors.webs import steps_of

MOST_GAP = 5


def far_apart(web, prices, gap):
    """Tell a full load and two plays of it, the bill of the one greater by a gap; None if none are."""
    if not are_prices(web, prices):
        raise NoPrices()
    if not is_within(gap, 0, MOST_GAP):
        raise NoGap()
    closed = PricedWalks(web, prices)
    telling = closed.telling()
    if not telling:
        return None
    tails = tails_of(web, grown_forest(web, [steps_of(web, house) for house in range(len(web.dealers))]))
    rounds = fillers(web)
    plans = [_plan(web, closed, _sides(closed, relation, gap), tails, rounds) for relation in telling]
    _, load, diaries = min(plans, key=lambda plan: plan[0])
    plays = [dealt(web, load, written(walked, tails)) for walked in diaries]
    return tuple(load), plays[0], plays[1]


def _sides(closed, relation, gap):
    """Tell two dicts of multiples of walks of the same load, the one dearer than the other by a gap."""
    top, bottom = closed.cost(relation)
    sign = 1 if top > 0 else -1
    # At least once, as the one is to be dearer for no gap, too; else the gap by the cost, rounded up.
    often = max(1, -(-gap * bottom // (sign * top)))
    one = {at: sign * often * many for at, many in relation.items() if sign * many > 0}
    other = {at: -sign * often * many for at, many in relation.items() if sign * many < 0}
    return one, other


def _plan(web, closed, sides, tails, rounds):
    """Tell the number of moves of both plays, their load, and for each the list of (walk, multiple)."""
    load = load_of_tails(web, tails)
    for at, many in sides[0].items():
        add_to(load, closed.loads[at], many)
    common = [(rounds[house], many) for house, many in filled(web, rounds, load).items()]
    both = [common + [(closed.walks[at], many) for at, many in side.items()] for side in sides]
    return sum([len(walk) * many for walked in both for walk, many in walked]), load, both
