"""Chances of the steps of dealers, and what grains then cost at the mean."""

from lastdoors.amounts import common_bottom, divided, fraction, greatest_divisor, times, together
from lastdoors.errors import NoChances, NoPrices, NoRounds
from lastdoors.kinds import is_fraction, is_tuple_of
from lastdoors.prices import are_prices, cost_of
from lastdoors.relations import related
from lastdoors.rounds import are_rounds_from, unlike
from lastdoors.walks import load_of_counts
from lastdoors.webs import into, is_step, pair_of, steps


def _rows_of(web, house):
    """Tell for each standing of a house the list of its steps."""
    rows = []
    for standing, pairs in enumerate(web.dealers[house]):
        rows.append([(house, standing, number) for number in range(len(pairs))])
    return rows


def _all_rows(web):
    """Tell for each standing of each house the list of its steps."""
    return [row for house in range(len(web.dealers)) for row in _rows_of(web, house)]


def _are_chances(web, thing):
    """Judge whether a thing is chances of a web."""
    if not isinstance(thing, dict) or len(thing) != len(steps(web)):
        return False
    if not all([is_step(web, step) and is_fraction(part) and part[0] > 0 for step, part in thing.items()]):
        return False
    return all([together([thing[step] for step in row]) == (1, 1) for row in _all_rows(web)])


def evenly(web):
    """Tell the chances that are the same for all steps of a standing."""
    return {step: (1, len(row)) for row in _all_rows(web) for step in row}


def long_shares(web, chances):
    """Tell how great a part of all steps of its house each step is in the long run."""
    if not _are_chances(web, chances):
        raise NoChances()
    shares = {}
    for house in range(len(web.dealers)):
        counts = _long_counts(web, chances, house)
        whole = sum(list(counts.values()))
        for step, many in counts.items():
            shares[step] = fraction(many, whole)
    return shares


def _long_counts(web, chances, house):
    """Tell integers for the steps of a house that are to one another as its steps are in the long run."""
    counts = {}
    flows = []
    for standing, row in enumerate(_rows_of(web, house)):
        common = common_bottom([chances[step] for step in row])
        flow = [0] * len(web.dealers[house])
        for step in row:
            top, bottom = chances[step]
            counts[step] = top * (common // bottom)
            flow[standing] += counts[step]
            flow[pair_of(web, step)[1]] -= counts[step]
        flows.append(flow)
    # As standings lead on to one another, there is just one way in which all flows come to nothing.
    _, relations = related(flows)
    longer = {step: many * abs(relations[0][step[1]]) for step, many in counts.items()}
    common = greatest_divisor(list(longer.values()))
    return {step: many // common for step, many in longer.items()}


class LongRuns:
    """Counts of steps of each house as in the long run, and the multiples of them that come to one house alone."""

    def __init__(self, web, chances):
        self.runs = [_long_counts(web, chances, house) for house in range(len(web.dealers))]
        self.units, _ = related([load_of_counts(web, run) for run in self.runs])

    def worths(self, prices):
        """Tell for each house what a grain of it costs at the mean."""
        costs = [cost_of(prices, run) for run in self.runs]
        found = []
        for house, (numbers, multiples) in enumerate(self.units):
            cost = together([times(costs[at], many) for at, many in multiples.items()])
            found.append(divided(cost, numbers[house]))
        return tuple(found)


def mean_worths(web, chances, prices):
    """Tell for each house what a grain of it costs at the mean."""
    if not _are_chances(web, chances):
        raise NoChances()
    if not are_prices(web, prices):
        raise NoPrices()
    return LongRuns(web, chances).worths(prices)


def home_shares(web, chances):
    """Tell for each house how great a part of its grains comes into each cup at the mean."""
    if not _are_chances(web, chances):
        raise NoChances()
    runs = LongRuns(web, chances)
    by_cups = [runs.worths({step: (1, 1) for step in into(web, -1 - cup)}) for cup in range(web.cups)]
    return [tuple([worths[house] for worths in by_cups]) for house in range(len(web.dealers))]


def chances_of(web, rounds):
    """Tell the chances in which steps of a standing are to one another as in rounds."""
    if not are_rounds_from(web, rounds, 1):
        raise NoRounds()
    chances = {}
    for row in _all_rows(web):
        whole = sum([rounds[step] for step in row])
        for step in row:
            chances[step] = fraction(rounds[step], whole)
    return chances


def unlike_chances(web, prices):
    """Tell a pair of chances with unlike mean worths, None if there is none.

    The bill of rounds is that of their load by the mean worths of their chances. So rounds of one load
    with unlike bills have chances with unlike mean worths.
    """
    rounds = unlike(web, prices)
    if rounds is None:
        return None
    return chances_of(web, rounds[0]), chances_of(web, rounds[1])


def are_unlike_chances(web, prices, thing):
    """Judge whether a thing is a pair of chances with unlike mean worths."""
    if not are_prices(web, prices):
        raise NoPrices()
    if not is_tuple_of(thing, 2) or not all([_are_chances(web, part) for part in thing]):
        return False
    return mean_worths(web, thing[0], prices) != mean_worths(web, thing[1], prices)
