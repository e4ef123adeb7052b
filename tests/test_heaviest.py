"""4.3 and 4.4: heaviest forests, nests that bar heavier ones, the most and least that choices can do."""

import random
import unittest
from fractions import Fraction

from lastdoors.errors import NoCup, NoLoad, NoNest, NoPrices, NoTable, NoWeights
from lastdoors.forests import is_forest
from lastdoors.heaviest import bound_of, cup_bounds, heaviest, is_nest, least, most, nest, spread
from lastdoors.making import by_turns, freely
from lastdoors.plays import played
from lastdoors.tables import share_table, table
from lastdoors.webs import Web
from tests.helpers import (FREE, P, W, chosen_prices, fixed_web, made_webs, odd_things, pair, plain_forests,
                           plain_steps, raised, random_play, some_web)
from tests.test_small import NO_LOADS
from tests.test_tables import no_prices

LOOP = Web(1, (freely((-1, 0, 1)), freely((-1, 0, 1))))
NO_WEIGHTS = [
    {(2, 0, 0): 1}, {(0, 0, 1): 1}, {(0, 0): 1}, {0: 1}, {None: 1}, {"000": 1}, {(0, 0, 0): True},
    {(0, 0, 0): False}, {(0, 0, 0): None}, {(0, 0, 0): "1"}, {(0, 0, 0): (1, 1)}, {(0, 0, 0): 10 ** 6 + 1},
    {(0, 0, 0): -(10 ** 6) - 1}, {(0, 0, 0): [1]}, {(0, 0, 0): 1, (1, 0, 0): True}, [((0, 0, 0), 1)], ((0, 0, 0), 1),
]
NO_NESTS = [
    [], [((0,), 1)], ((0,), 1), (((0,), 1), ((0,), 1)), (((0,), 1), ((0,), 2)), (((), 1),), (((1, 0), 1),),
    (((0, 0), 1),), (((2,), 1),), (((-1,), 1),), (((0, 2), 1),), (((0,), 0),), (((0,), -1),), (((0,), True),),
    (((False,), 1),), (((0, True), 1),), (((0,), None),), (((0,), (1, 1)),), (([0], 1),), ([(0,), 1],),
    (((0,), 1, 1),), (((0,),),), ((0, 1),), ((None, 1),), (((0,), 1), None), (((0,), "1"),), {((0,), 1): 1},
    ((1, (0,)),),
]


def small_webs():
    return made_webs()[:5] + [LOOP] + [some_web(seed, 4, 3, 3) for seed in range(60)]


def some_weights(seed, web, part=0.8):
    source = random.Random(seed)
    size = source.choice([2, 10, 10 ** 6])
    return {step: source.randint(-size, size) for step in plain_steps(web) if source.random() < part}


def no_weights():
    return [thing for thing in odd_things() if not isinstance(thing, dict)] + [{0: 1}, {(): ()}] + NO_WEIGHTS


def plain_bound(web, weights, told):
    """The bound of a nest, word by word."""
    total = -sum([z for _, z in told])
    for house in range(len(web.dealers)):
        total += max([weights.get(step, 0) + sum([z for lot, z in told if house in lot and door not in lot])
                      for step, (door, _) in plain_steps(web).items() if step[0] == house])
    return total


def some_nest(source, web):
    """A nest by chance, whatever its bound."""
    lots = {tuple(sorted(source.sample(range(len(web.dealers)), source.randint(1, len(web.dealers)))))
            for _ in range(source.randint(0, 4))}
    told = [(lot, source.choice([1, 2, 5, 10 ** 6, 10 ** 40])) for lot in lots]
    source.shuffle(told)
    return tuple(told)


class HeaviestTest(unittest.TestCase):

    def check(self, web, weights, greatest=None):
        number, forest = heaviest(web, weights)
        self.assertIs(is_forest(web, forest), True)
        self.assertIs(type(number), int)
        self.assertEqual(number, sum([weights.get(step, 0) for step in forest]))
        if greatest is not None:
            self.assertEqual(number, greatest)
        told = nest(web, weights)
        self.assertEqual(bound_of(web, weights, told), number)
        self.assertEqual(plain_bound(web, weights, told), number)
        self.assertIs(is_nest(web, weights, told), True)
        return told

    def test_by_hand(self):
        self.assertEqual(heaviest(W, {(0, 0, 0): 2, (0, 1, 0): 3, (1, 1, 0): 4}), (6, ((0, 0, 0), (1, 1, 0))))
        self.assertEqual(heaviest(FREE, {(0, 0, 0): -1}), (0, ((0, 0, 1),)))
        self.assertEqual(heaviest(FREE, {(0, 0, 0): -1, (0, 0, 1): -2}), (-1, ((0, 0, 0),)))
        # The doors to the own house are no last doors.
        self.assertEqual(heaviest(LOOP, {(0, 0, 1): 9, (1, 0, 2): 9, (0, 0, 2): 1}), (1, ((0, 0, 2), (1, 0, 0))))
        self.assertEqual(nest(W, {}), ())
        self.assertEqual(nest(FREE, {(0, 0, 0): 5}), ())

    def test_against_all_forests(self):
        nested = 0
        for seed, web in enumerate(small_webs()):
            forests = plain_forests(web)
            for kind in range(4):
                weights = some_weights(seed + 100 * kind, web)
                greatest = max([sum([weights.get(step, 0) for step in forest]) for forest in forests])
                nested += len(self.check(web, weights, greatest)) > 1
        self.assertGreater(nested, 20)

    def test_without_weights_and_with_all_below_0(self):
        for web in small_webs():
            self.check(web, {}, 0)
            self.check(web, {step: 0 for step in plain_steps(web)}, 0)
            self.check(web, {step: -7 for step in plain_steps(web)}, -7 * len(web.dealers))
            self.check(web, {step: 10 ** 6 for step in plain_steps(web)}, 10 ** 6 * len(web.dealers))
            below = {step: -1 - (step[0] + 3 * step[1] + step[2]) % 5 for step in plain_steps(web)}
            self.check(web, below, max([sum([below[step] for step in forest]) for forest in plain_forests(web)]))

    def test_large_webs(self):
        for seed in range(60):
            web = some_web(seed, 8, 8, 6)
            weights = some_weights(seed, web, 1)
            self.check(web, weights)
            # Steps to cups are light, so that the houses would lead on to one another.
            light = {step: -(10 ** 6) if door < 0 else abs(weights[step])
                     for step, (door, _) in plain_steps(web).items()}
            self.check(web, light)

    def test_lots_in_lots(self):
        # Doors between near houses are heavier, so the nest has lots in lots up to that of all houses.
        dealers = []
        for house in range(8):
            doors = [house ^ 1, house ^ 2, house ^ 4] + ([-1] if house == 0 else [])
            dealers.append(freely(tuple(sorted(doors))))
        web = Web(1, tuple(dealers))
        heavy = {1: 100, 2: 50, 4: 20}
        weights = {step: heavy[door ^ step[0]] for step, (door, _) in plain_steps(web).items() if door >= 0}
        told = self.check(web, weights, 4 * 100 + 2 * 50 + 20)
        self.assertIn(tuple(range(8)), [lot for lot, _ in told])
        self.assertEqual(len(told), 7)

    def test_bound_as_it_is_told(self):
        for seed, web in enumerate(small_webs()):
            source = random.Random(seed)
            for _ in range(6):
                weights = some_weights(seed, web)
                told = some_nest(source, web)
                bound = bound_of(web, weights, told)
                self.assertEqual(bound, plain_bound(web, weights, told))
                number = heaviest(web, weights)[0]
                self.assertGreaterEqual(bound, number)
                self.assertIs(is_nest(web, weights, told), bound == number)
        self.assertEqual(bound_of(LOOP, {(0, 0, 1): 9}, (((0,), 4),)), 5)
        self.assertEqual(bound_of(LOOP, {(0, 0, 1): 9}, (((0,), 4), ((0, 1), 6))), 6)

    def test_nests_with_one_thing_changed(self):
        weights = {(0, 0, 1): 9, (1, 0, 2): 9, (0, 0, 2): 1}
        told = (((0,), 8), ((1,), 9))
        self.assertIs(is_nest(LOOP, weights, told), True)
        self.assertIs(is_nest(LOOP, weights, told[::-1]), True)
        self.assertIs(is_nest(LOOP, weights, nest(LOOP, weights)), True)
        for changed in [(((0,), 9), told[1]), told + (((0, 1), 1),)]:
            self.assertIs(is_nest(LOOP, weights, changed), True)
        for changed in [told[:1], told[1:], (), told + (((0, 1), 2),), (((0,), 7), told[1]),
                        (((0,), 8), ((0, 1), 9)), told + told[:1], (((0,), 8), ((1,), True)), list(told),
                        (((0,), 8), [(1,), 9]), (((0,), 8), ([1], 9)), (((0,), 8), ((1,), 9, 0))]:
            self.assertIs(is_nest(LOOP, weights, changed), False)

    def test_is_nest_of_other_things(self):
        for thing in odd_things() + NO_NESTS:
            self.assertIs(is_nest(W, {}, thing), False)
        self.assertIs(is_nest(W, {}, ()), True)

    def test_errors_in_order(self):
        for weights in no_weights():
            for call, given in [(heaviest, []), (bound_of, [None]), (nest, []), (is_nest, [None])]:
                self.assertIs(type(raised(call, W, weights, *given)), NoWeights, (call, weights))
        for told in odd_things() + NO_NESTS:
            self.assertIs(type(raised(bound_of, W, {}, told)), NoNest)
        self.assertIsNone(raised(heaviest, W, {(0, 0, 0): 10 ** 6, (1, 0, 0): -(10 ** 6)}))

    def test_unhashable_and_many_lots(self):
        self.assertIs(type(raised(bound_of, W, {}, (((0,), 1),) * 13000)), NoNest)
        lots = [tuple([k for k in range(8) if 1 << k & number]) for number in range(1, 256)]
        web = some_web(27, 8, 8, 6)
        self.assertEqual(len(web.dealers), 8)
        told = tuple([(lot, 1 + len(lot)) for lot in lots])
        self.assertEqual(bound_of(web, {}, told), plain_bound(web, {}, told))


class SpreadTest(unittest.TestCase):

    def sums_by_ends(self, web, leads):
        found = {}
        for forest in plain_forests(web):
            ends = tuple([plain_steps(web)[step][1] for step in forest])
            found[ends] = sum([Fraction(*row[end]) for row, end in zip(leads, ends)])
        return found

    def sum_of(self, web, leads, forest):
        return sum([Fraction(*leads[step[0]][plain_steps(web)[step][1]]) for step in forest])

    def test_by_hand(self):
        self.assertEqual(spread(W, P), (2, 3))
        self.assertEqual(most(W, P), ((1, 3), ((0, 0, 0), (1, 1, 0))))
        self.assertEqual(least(W, P), ((-1, 3), ((0, 1, 0), (1, 0, 0))))
        self.assertEqual(spread(W, {}), (0, 1))
        self.assertEqual(spread(FREE, {(0, 0, 0): (1, 2), (0, 0, 1): (1, 2)}), (0, 1))

    def test_against_all_ends_that_can_come(self):
        for seed, web in enumerate(small_webs()):
            (_, leads), prices = chosen_prices(seed, web)
            sums = self.sums_by_ends(web, leads).values()
            high, low = most(web, prices), least(web, prices)
            self.assertEqual(high[0], pair(Fraction(max(sums))))
            self.assertEqual(low[0], pair(Fraction(min(sums))))
            self.assertEqual(spread(web, prices), pair(Fraction(max(sums) - min(sums))))
            for number, forest in (high, low):
                self.assertIs(is_forest(web, forest), True)
                self.assertEqual(self.sum_of(web, leads, forest), Fraction(*number))

    def test_large_numbers(self):
        bottoms = [999983, 999979, 999961, 999959, 999953, 999931, 999917, 999907]
        prices = {(house, k, 0): (10 ** 9 - k - house, bottom)
                  for house in range(3) for k, bottom in enumerate(bottoms)}
        web = Web(1, tuple([by_turns((-1,) * 7 + ((house + 1) % 3,)) for house in range(3)]))
        leads = table(web, prices)[1]
        sums = self.sums_by_ends(web, leads).values()
        self.assertEqual(most(web, prices)[0], pair(max(sums)))
        self.assertEqual(spread(web, prices), pair(max(sums) - min(sums)))

    def test_errors_in_order(self):
        for call in (most, least, spread):
            for prices in no_prices():
                self.assertIs(type(raised(call, W, prices)), NoPrices)
            self.assertIs(type(raised(call, FREE, {(0, 0, 0): (1, 1)})), NoTable)


class CupBoundsTest(unittest.TestCase):

    def test_by_hand(self):
        self.assertEqual(cup_bounds(W, 0, (1, 1)), ((2, 3), (4, 3)))
        self.assertEqual(cup_bounds(W, 0, (0, 0)), ((-1, 3), (1, 3)))
        self.assertEqual(cup_bounds(Web(1, (freely((-1, 0)),)), 0, (7,)), ((7, 1), (7, 1)))

    def test_none_just_where_there_is_no_table(self):
        none = 0
        for web in small_webs():
            load = (2,) * len(web.dealers)
            for cup in range(web.cups):
                self.assertEqual(cup_bounds(web, cup, load) is None, share_table(web, cup) is None)
                none += cup_bounds(web, cup, load) is None
        self.assertGreater(none, 20)
        self.assertIsNone(cup_bounds(FREE, 0, (0,)))

    def test_against_all_ends_and_plays(self):
        for seed in range(60):
            web = fixed_web(seed) if seed % 2 else some_web(seed)
            load = tuple([1 + (seed + house) % 4 for house in range(len(web.dealers))])
            for cup in range(web.cups):
                found = cup_bounds(web, cup, load)
                if found is None:
                    continue
                worths, leads = share_table(web, cup)
                worth = sum([Fraction(*worths[house]) * many for house, many in enumerate(load)])
                sums = SpreadTest().sums_by_ends(web, leads).values()
                self.assertEqual(found, (pair(worth + min(sums)), pair(worth + max(sums))))
                for other in range(5):
                    grains = played(web, load, random_play(other, web, load)[0])[2][cup]
                    self.assertTrue(Fraction(*found[0]) <= grains <= Fraction(*found[1]))

    def test_errors_in_order(self):
        for cup in odd_things() + [2, -1, 6]:
            self.assertIs(type(raised(cup_bounds, W, cup, None)), NoCup)
        for load in odd_things() + NO_LOADS:
            self.assertIs(type(raised(cup_bounds, W, 0, load)), NoLoad)
        # A wrong load is an error also where there is no table.
        self.assertIs(type(raised(cup_bounds, FREE, 0, (1, 1))), NoLoad)


if __name__ == "__main__":
    unittest.main()
