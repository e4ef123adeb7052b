"""Shortest ways among the standings of dealers, and the walks that they close."""

from lastdoors.amounts import NOTHING, times, together
from lastdoors.kinds import is_integer
from lastdoors.plays import counted
from lastdoors.prices import cost_of
from lastdoors.relations import related
from lastdoors.webs import is_step, pair_of, steps


def ways_out(web, house):
    """Tell for each standing of a house a shortest tuple of steps from standing 0 to it."""
    ways = {0: ()}
    reached_so_far = [0]
    at = 0
    while at < len(reached_so_far):
        standing = reached_so_far[at]
        at += 1
        for number, (_, after) in enumerate(web.dealers[house][standing]):
            if after not in ways:
                ways[after] = (*ways[standing], (house, standing, number))
                reached_so_far.append(after)
    return ways


def ways_back(web, house):
    """Tell for each standing of a house a shortest tuple of steps from it to standing 0."""
    ways = {0: ()}
    dealer = web.dealers[house]
    while len(ways) < len(dealer):
        found = {}
        for standing, pairs in enumerate(dealer):
            for number, (_, after) in enumerate(pairs):
                if standing not in ways and after in ways and standing not in found:
                    found[standing] = ((house, standing, number), *ways[after])
        ways.update(found)
    return ways


def closed_walks(web):
    """Tell walks from standing 0 back to it, shortest ones first, each step being in one of them.

    There is a shortest one through each step. With multiples of any sign they come together to each
    way to count steps in which as many lead to each standing as from it.
    """
    out = [ways_out(web, house) for house in range(len(web.dealers))]
    back = [ways_back(web, house) for house in range(len(web.dealers))]
    found = {}
    for step in steps(web):
        house, standing, _ = step
        walk = (*out[house][standing], step, *back[house][pair_of(web, step)[1]])
        found[walk] = True
    return [walk for _, walk in sorted([(len(walk), walk) for walk in found])]


def are_counts_of_all(web, thing):
    """Judge whether a thing is a dict from just all steps of a web to integers."""
    if not isinstance(thing, dict) or len(thing) != len(steps(web)):
        return False
    return all([is_step(web, step) and is_integer(many) for step, many in thing.items()])


def balance_of(web, counts):
    """Tell for each standing of each house the steps that lead to it less those from it, counted so."""
    balance = {}
    for step, many in counts.items():
        house, standing, _ = step
        after = pair_of(web, step)[1]
        balance[(house, standing)] = balance.get((house, standing), 0) - many
        balance[(house, after)] = balance.get((house, after), 0) + many
    return balance


def load_of_counts(web, counts):
    """Tell for each house the steps from it, less those by doors to it, counted so."""
    load = [0] * len(web.dealers)
    for step, many in counts.items():
        load[step[0]] += many
        door = pair_of(web, step)[0]
        if door >= 0:
            load[door] -= many
    return load


class PricedWalks:
    """The closed walks of a web, what each of them costs, and how their loads are related."""

    def __init__(self, web, prices):
        self.walks = closed_walks(web)
        counts = [counted(walk) for walk in self.walks]
        self.costs = [cost_of(prices, one) for one in counts]
        self.loads = [load_of_counts(web, one) for one in counts]
        self.units, self.relations = related(self.loads)

    def cost(self, multiples):
        """Tell what walks, so often as a dict by their places tells, cost together."""
        return together([times(self.costs[at], many) for at, many in multiples.items()])

    def telling(self):
        """Tell the relations that cost something: there is a table exactly if there are none."""
        return [relation for relation in self.relations if self.cost(relation) != NOTHING]
