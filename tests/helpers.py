"""What several tests share: webs, wrong things, and ways to work results out plainly."""

import random
from fractions import Fraction
from itertools import product

from lastdoors.errors import BadWeb, NoStep
from lastdoors.making import by_turns, freely, in_rounds, never_ahead
from lastdoors.webs import Web

W = Web(2, (by_turns((-1, 1)), by_turns((-2, 0))))
P = {(0, 0, 0): (1, 1)}
FREE = Web(2, (freely((-2, -1)),))


def nested(depth, inside=0):
    """A tuple in a tuple in a tuple .. so many deep."""
    for _ in range(depth):
        inside = (inside,)
    return inside


def nested_list(depth):
    """A list in a list in a list .. so many deep."""
    inside = []
    for _ in range(depth):
        inside = [inside]
    return inside


def odd_things():
    """Things that are no number, tuple of numbers, dict of numbers or anything that a call wants."""
    return [
        None, True, False, -1, -7, 10 ** 60, -(10 ** 60), "", "0", "(0, 0, 0)", b"", b"\x00\x00\x00",
        [], [0], [0, 0], [(0, 0, 0)], (None,), ("0",), ("0", "0"), (True,), (False, False),
        (0, False, 0), (True, 0, 0), (-1, 0, 0), (0, 0, -1), (0, 0, 99), (0, 99, 0), (99, 0, 0),
        ((True, 1),), ((0, 0), (0, True)), [[0, 0]], range(3), nested(39), nested(39, "x"), nested_list(39),
        {"x": nested_list(38)}, {(): ()}, {0: 1}, {(0, 0, 0): True}, {(0, 0): (1, 1)}, (W,), W, FREE, Web,
        NoStep, NoStep(), BadWeb("cups", -1), len, object, Ellipsis, NotImplemented, slice(0, 1),
        bytearray(b"ab"), memoryview(b"ab"), tuple([(0, 0)] * 13000 + [None]), "x" * 1000, iter([]), zip(),
        lambda thing: thing,
    ]


def raised(call, *given):
    """The error that a call raises, None if it raises none."""
    try:
        call(*given)
    except Exception as error:
        return error
    return None


def some_web(seed, houses=4, standings=4, choices=3):
    """A right web that depends on the seed alone, with choices at most at each standing."""
    source = random.Random(seed)
    while True:
        cups = source.randint(1, 3)
        many = source.randint(1, houses)
        dealers = [some_dealer(source, cups, many, standings, choices) for _ in range(many)]
        try:
            return Web(cups, tuple(dealers))
        except BadWeb:
            continue


def some_dealer(source, cups, houses, standings, choices):
    """A dealer whose standings lie on a ring, with other steps besides."""
    many = source.randint(1, standings)
    dealer = []
    for standing in range(many):
        pairs = {(source.randint(-cups, houses - 1), (standing + 1) % many)}
        for _ in range(source.randint(0, choices - 1)):
            pairs.add((source.randint(-cups, houses - 1), source.randrange(many)))
        dealer.append(tuple(sorted(pairs)))
    return tuple(dealer)


def fixed_web(seed, houses=4, standings=4):
    """A right web without choices that depends on the seed alone."""
    return some_web(seed, houses, standings, 1)


def made_webs():
    """Webs of the dealers that the package makes."""
    return [
        W, FREE,
        Web(1, (by_turns((-1,)),)),
        Web(2, (in_rounds((-2, -1, 1)), never_ahead(0, -1, 3))),
        Web(3, (freely((-3, 0, 1)), in_rounds((-2, 2)), by_turns((1, 1, -1, 0)))),
        Web(1, (never_ahead(-1, 1, 1), never_ahead(0, -1, 2), freely((0, 1, 2)))),
    ]


def plain_steps(web):
    """All steps of a web with their doors and next standings, straight from the dealers."""
    found = {}
    for house, dealer in enumerate(web.dealers):
        for standing, pairs in enumerate(dealer):
            for number, pair in enumerate(pairs):
                found[(house, standing, number)] = pair
    return found


def some_prices(seed, web, part=0.6):
    """Prices of some steps that depend on the seed alone."""
    source = random.Random(seed)
    prices = {}
    for step in plain_steps(web):
        if source.random() < part:
            amount = Fraction(source.randint(-9, 9), source.randint(1, 6))
            prices[step] = (amount.numerator, amount.denominator)
    return prices


def chosen_prices(seed, web):
    """Worths and leads that depend on the seed alone, and the prices for which they are the table."""
    source = random.Random(seed)

    def amount():
        return Fraction(source.randint(-20, 20), source.randint(1, 9))

    worths = [amount() for _ in web.dealers]
    leads = [[Fraction(0)] + [amount() for _ in dealer[1:]] for dealer in web.dealers]
    prices = {}
    for step, (door, after) in plain_steps(web).items():
        house, standing, _ = step
        behind = worths[door] if door >= 0 else 0
        prices[step] = pair(leads[house][after] - leads[house][standing] + worths[house] - behind)
    found = (tuple([pair(worth) for worth in worths]), tuple([tuple([pair(x) for x in row]) for row in leads]))
    return found, prices


def pair(amount):
    """A Fraction as a pair."""
    return amount.numerator, amount.denominator


def plain_table(web, prices):
    """The table by solving all its equations as they stand, None if they cannot be solved."""
    places = [("worth", house) for house in range(len(web.dealers))]
    for house, dealer in enumerate(web.dealers):
        places.extend([(house, standing) for standing in range(1, len(dealer))])
    rows = []
    for step, (door, after) in plain_steps(web).items():
        house, standing, _ = step
        row = {place: Fraction(0) for place in places}
        parts = [(("worth", house), 1), ((house, after), 1), ((house, standing), -1)]
        if door >= 0:
            parts.append((("worth", door), -1))
        for place, many in parts:
            if place in row:
                row[place] += many
        rows.append(([row[place] for place in places], Fraction(*prices.get(step, (0, 1)))))
    solved = solve(rows, len(places))
    if solved is None:
        return None
    told = dict(zip(places, solved))
    leads = [tuple([(0, 1)] + [pair(told[(house, k)]) for k in range(1, len(dealer))])
             for house, dealer in enumerate(web.dealers)]
    return tuple([pair(told[("worth", house)]) for house in range(len(web.dealers))]), tuple(leads)


def solve(rows, many):
    """The only solution of linear equations, None if there is none."""
    rows = [list(left) + [right] for left, right in rows]
    done = 0
    for column in range(many):
        pivot = next(k for k in range(done, len(rows)) if rows[k][column] != 0)
        rows[done], rows[pivot] = rows[pivot], rows[done]
        rows[done] = [x / rows[done][column] for x in rows[done]]
        for k in range(len(rows)):
            if k != done and rows[k][column] != 0:
                rows[k] = [a - rows[k][column] * b for a, b in zip(rows[k], rows[done])]
        done += 1
    if any(row[-1] != 0 for row in rows[done:]):
        return None
    return [row[-1] for row in rows[:done]]


def plain_forests(web):
    """All forests: all choices of a step of each house that are none with a ring."""
    by_house = [[step for step in plain_steps(web) if step[0] == house] for house in range(len(web.dealers))]
    return [chosen for chosen in product(*by_house) if leads_home(web, chosen)]


def leads_home(web, chosen):
    """Whether from each house the doors of the chosen steps, one of each house, lead on to a cup."""
    doors = [plain_steps(web)[step][0] for step in chosen]
    for house in range(len(doors)):
        at = house
        for _ in doors:
            if at >= 0:
                at = doors[at]
        if at >= 0:
            return False
    return True


def random_play(seed, web, load):
    """A play of a load by chance, which depends on the seed alone, and its ends."""
    source = random.Random(seed)
    waiting, stands, moves = list(load), [0] * len(load), []
    while any(waiting):
        house = source.choice([k for k, many in enumerate(waiting) if many])
        number = source.randrange(len(web.dealers[house][stands[house]]))
        door, after = web.dealers[house][stands[house]][number]
        waiting[house] -= 1
        stands[house] = after
        if door >= 0:
            waiting[door] += 1
        moves.append((house, number))
    return tuple(moves), tuple(stands)


def chain(houses, back, on):
    """A web in which each house sends some grains back to the one ahead of it, and then some on."""
    return Web(1, tuple([by_turns((max(0, house - 1),) * back + (house + 1 if house < houses - 1 else -1,) * on)
                         for house in range(houses)]))


def plain_lattice(web):
    """For each house of a fixed web its number of standings, less the numbers of its steps by doors."""
    rows = []
    for house, dealer in enumerate(web.dealers):
        row = [0] * len(web.dealers)
        row[house] += len(dealer)
        for ((door, _),) in dealer:
            if door >= 0:
                row[door] -= 1
        rows.append(row)
    return rows


def plain_alike(web, one, other):
    """Whether loads of a fixed web differ by a sum of the rows of the lattice, found by fractions."""
    rows = plain_lattice(web)
    equations = [([Fraction(row[k]) for row in rows], Fraction(one[k] - other[k])) for k in range(len(rows))]
    return all([many.denominator == 1 for many in solve(equations, len(rows))])
