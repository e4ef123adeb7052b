"""5.1: all that can come of small loads."""

import unittest
from fractions import Fraction

from lastdoors.errors import NoLoad, NoPrices, NoTable, TooMany
from lastdoors.forests import all_ends
from lastdoors.making import by_turns, freely
from lastdoors.plays import is_play, played
from lastdoors.small import ends_of, most_of, shortest_play
from lastdoors.tables import bill
from lastdoors.webs import Web
from tests.helpers import (FREE, P, W, chosen_prices, made_webs, odd_things, pair, plain_steps, raised,
                           random_play, some_web)
from tests.test_tables import no_prices

NO_LOADS = [(1,), (1, 1, 1), (1, -1), [1, 1], (1, True), (False, 1), (1, None), ((1,), 1), {0: 1, 1: 1}]


def plain_triples(web, load):
    """All triples that can come up, layer by layer: the list of the layers, by the fewest moves."""
    steps = plain_steps(web)
    seen = {(load, (0,) * len(load), (0,) * web.cups)}
    layers = [set(seen)]
    while layers[-1]:
        layer = set()
        for waiting, stands, cups in layers[-1]:
            for (house, standing, _), (door, after) in steps.items():
                if waiting[house] and stands[house] == standing:
                    left = list(waiting)
                    left[house] -= 1
                    filled = list(cups)
                    if door < 0:
                        filled[-1 - door] += 1
                    else:
                        left[door] += 1
                    layer.add((tuple(left), stands[:house] + (after,) + stands[house + 1:], tuple(filled)))
        layers.append(layer - seen)
        seen |= layer
    return layers[:-1]


def done(layer):
    return sorted([(stands, cups) for waiting, stands, cups in layer if not any(waiting)])


def some_loads(web, seed):
    many = len(web.dealers)
    return [(0,) * many, (1,) * many, tuple([(seed + house) % 3 for house in range(many)]),
            tuple([2 if house == seed % many else 0 for house in range(many)])]


def small_webs():
    return made_webs()[:4] + [some_web(seed, 3, 3, 3) for seed in range(40)]


class SmallTest(unittest.TestCase):

    def test_by_hand(self):
        self.assertEqual(ends_of(W, (1, 1)), [((1, 1), (1, 1))])
        self.assertEqual(ends_of(FREE, (2,)), [((0,), (0, 2)), ((0,), (1, 1)), ((0,), (2, 0))])
        self.assertEqual(shortest_play(W, (1, 0)), ((0, 0),))
        self.assertEqual(shortest_play(Web(1, (freely((-1, 0)),)), (3,)), ((0, 0),) * 3)
        self.assertEqual(most_of(W, P, (1, 2)), (1, 1))
        self.assertEqual(most_of(W, P, (2, 1)), (2, 1))

    def test_no_grains(self):
        for web in made_webs():
            none = (0,) * len(web.dealers)
            self.assertEqual(ends_of(web, none), [(none, (0,) * web.cups)])
            self.assertEqual(shortest_play(web, none), ())
            self.assertEqual(most_of(web, {}, none), (0, 1))

    def test_against_all_moves(self):
        for seed, web in enumerate(small_webs()):
            for load in some_loads(web, seed):
                layers = plain_triples(web, load)
                if sum(map(len, layers)) > 20000:
                    for call in (ends_of, shortest_play):
                        self.assertIs(type(raised(call, web, load)), TooMany)
                    continue
                self.assertEqual(ends_of(web, load), sorted([one for layer in layers for one in done(layer)]))
                moves = shortest_play(web, load)
                self.assertIs(type(moves), tuple)
                self.assertIs(is_play(web, load, moves), True)
                self.assertEqual(len(moves), [k for k, layer in enumerate(layers) if done(layer)][0])

    def test_most_against_all_ends(self):
        for seed, web in enumerate(small_webs()):
            (worths, leads), prices = chosen_prices(seed, web)
            for load in some_loads(web, seed):
                if raised(ends_of, web, load) is not None:
                    continue
                bills = []
                for ends, _ in ends_of(web, load):
                    told = sum([Fraction(*worth) * many for worth, many in zip(worths, load)])
                    bills.append(told + sum([Fraction(*row[end]) for row, end in zip(leads, ends)]))
                self.assertEqual(most_of(web, prices, load), pair(Fraction(max(bills))))

    def test_most_is_a_bill_and_no_play_has_more(self):
        for seed, web in enumerate(small_webs()):
            prices = chosen_prices(seed, web)[1]
            load = (1,) * len(web.dealers)
            if raised(most_of, web, prices, load) is None:
                most = Fraction(*most_of(web, prices, load))
                for other in range(20):
                    moves, ends = random_play(other, web, load)
                    self.assertLessEqual(Fraction(*bill(web, prices, moves)), most)
                    self.assertIn((ends, played(web, load, moves)[2]), ends_of(web, load))

    def test_ends_of_full_loads_can_come(self):
        for web in small_webs():
            load = (1,) * len(web.dealers)
            if raised(ends_of, web, load) is None:
                told = all_ends(web)
                self.assertTrue(all(ends in told for ends, _ in ends_of(web, load)))

    def test_just_so_many_triples(self):
        # With two cups, (many + 1) * (many + 2) / 2 triples; with one, each grain is one more.
        self.assertEqual(len(ends_of(FREE, (198,))), 199)
        self.assertEqual(sum(map(len, plain_triples(FREE, (198,)))), 19900)
        self.assertIs(type(raised(ends_of, FREE, (199,))), TooMany)
        one = Web(1, (by_turns((-1,) * 3),))
        self.assertEqual(ends_of(one, (19999,)), [((1,), (19999,))])
        self.assertEqual(shortest_play(one, (19999,)), ((0, 0),) * 19999)
        self.assertEqual(most_of(one, {(0, 0, 0): (1, 2)}, (19999,)), (6667, 2))
        for load in [(20000,), (20001,), (10 ** 6,), (10 ** 60,)]:
            for call, given in [(ends_of, [one, load]), (most_of, [one, {}, load]), (shortest_play, [one, load])]:
                error = raised(call, *given)
                self.assertEqual((type(error), error.most), (TooMany, 20000))

    def test_triples_that_only_longer_plays_meet_are_counted(self):
        # One move each does; the grains may go about in all ways before.
        web = Web(1, (freely((-1, 1)), freely((-1, 0))))
        self.assertEqual(shortest_play(web, (3, 0)), ((0, 0),) * 3)
        self.assertEqual(len(plain_triples(web, (3, 0))[0]), 1)
        self.assertEqual(sum(map(len, plain_triples(web, (197, 0)))), 198 * 199 // 2)
        self.assertEqual(len(shortest_play(web, (197, 0))), 197)
        self.assertIs(type(raised(shortest_play, web, (199, 0))), TooMany)

    def test_lists_are_new(self):
        ends_of(FREE, (1,)).clear()
        self.assertEqual(len(ends_of(FREE, (1,))), 2)

    def test_errors_in_order(self):
        for load in odd_things() + NO_LOADS:
            for call, given in [(ends_of, [W, load]), (most_of, [W, P, load]), (shortest_play, [W, load])]:
                self.assertIs(type(raised(call, *given)), NoLoad)
        for prices in no_prices():
            self.assertIs(type(raised(most_of, W, prices, None)), NoPrices)
            self.assertIs(type(raised(most_of, W, prices, (10 ** 6, 0))), NoPrices)
        for load in [None, (1,), (10 ** 6,)]:
            self.assertIs(type(raised(most_of, FREE, {(0, 0, 0): (1, 1)}, load)), NoTable)


if __name__ == "__main__":
    unittest.main()
