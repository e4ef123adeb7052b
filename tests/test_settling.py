"""6.1: webs without choices, and to what loads come in them."""

import random
import unittest

from lastdoors.errors import NoLoad, NotFixed
from lastdoors.forests import all_ends
from lastdoors.making import by_turns, freely, in_rounds, never_ahead
from lastdoors.plays import played
from lastdoors.settling import is_fixed, often, settled
from lastdoors.tables import share_table, told_bill
from lastdoors.webs import Web
from tests.helpers import FREE, W, chain, fixed_web, made_webs, odd_things, plain_steps, raised, random_play, some_web
from tests.test_small import NO_LOADS


class IsFixedTest(unittest.TestCase):

    def test_webs(self):
        self.assertIs(is_fixed(W), True)
        self.assertIs(is_fixed(FREE), False)
        self.assertIs(is_fixed(Web(1, (freely((-1,)), in_rounds((0,))))), True)
        self.assertIs(is_fixed(Web(1, (by_turns((-1,)), never_ahead(0, -1, 1)))), False)
        for web in made_webs() + [some_web(seed) for seed in range(30)] + [fixed_web(seed) for seed in range(30)]:
            choices = [len(standing) for dealer in web.dealers for standing in dealer]
            self.assertIs(is_fixed(web), max(choices) == 1)

    def test_other_things(self):
        for thing in odd_things() + [W.dealers, (2, W.dealers), [W], {0: W}, (W,)]:
            if not isinstance(thing, Web):
                self.assertIs(is_fixed(thing), False)


class SettledTest(unittest.TestCase):

    def check_by_grains(self, web, load, seed):
        moves, ends = random_play(seed, web, load)
        self.assertEqual(settled(web, load), (ends, played(web, load, moves)[2]))
        out = [0] * len(load)
        for house, _ in moves:
            out[house] += 1
        self.assertEqual(often(web, load), tuple(out))

    def check_by_numbers(self, web, load):
        """What tells a play whole: all that comes to a house goes out, and the last doors lead to cups."""
        ends, cups = settled(web, load)
        out = often(web, load)
        came, filled, last = list(load), [0] * web.cups, {}
        for house, many in enumerate(out):
            self.assertTrue(type(many) is int and many >= 0)
            standing = 0
            for k in range(len(web.dealers[house])):
                # The steps are taken in turn, so the k-th one is so often taken:
                taken = (many - k + len(web.dealers[house]) - 1) // len(web.dealers[house])
                door, after = web.dealers[house][standing][0]
                if door < 0:
                    filled[-1 - door] += taken
                else:
                    came[door] += taken
                if many > 0 and k == (many - 1) % len(web.dealers[house]):
                    last[house] = door
                    self.assertEqual(ends[house], after)
                standing = after
            self.assertTrue(many > 0 or ends[house] == 0)
        self.assertEqual((out, cups), (tuple(came), tuple(filled)))
        self.assertEqual(sum(cups), sum(load))
        for house in last:
            for _ in range(len(load)):
                house = last[house] if house >= 0 else house
            self.assertLess(house, 0)

    def test_by_hand(self):
        self.assertEqual(settled(W, (2, 1)), ((1, 0), (2, 1)))
        self.assertEqual(often(W, (2, 1)), (3, 2))
        self.assertEqual(settled(W, (1, 1)), ((1, 1), (1, 1)))
        self.assertEqual(settled(W, (0, 1)), ((0, 1), (0, 1)))
        self.assertEqual(often(W, (0, 1)), (0, 1))
        self.assertEqual(settled(Web(1, (by_turns((-1, 0)),)), (2,)), ((1,), (2,)))
        self.assertEqual(often(Web(1, (by_turns((-1, 0)),)), (2,)), (3,))

    def test_no_grains(self):
        for seed in range(30):
            web = fixed_web(seed)
            none = (0,) * len(web.dealers)
            self.assertEqual(settled(web, none), (none, (0,) * web.cups))
            self.assertEqual(often(web, none), none)

    def test_grain_by_grain_in_several_orders(self):
        for seed in range(150):
            web = fixed_web(seed, 5, 5)
            source = random.Random(seed)
            for most in (1, 3, 20):
                load = tuple([source.choice([0, 1, source.randint(0, most)]) for _ in web.dealers])
                for order in range(3):
                    self.check_by_grains(web, load, order)
                self.check_by_numbers(web, load)

    def test_full_loads_end_where_forests_do(self):
        for seed in range(60):
            web = fixed_web(seed, 4, 4)
            load = tuple([1 + (seed + house) % 7 for house in range(len(web.dealers))])
            self.check_by_grains(web, load, seed)
            self.assertIn(settled(web, load)[0], all_ends(web))

    def test_houses_that_no_grain_reaches(self):
        web = Web(2, (by_turns((-1, 1)), by_turns((-2, -1, 1)), by_turns((0, 0, 3)), by_turns((-1, 2))))
        for load in [(5, 0, 0, 0), (0, 7, 0, 0), (1, 0, 0, 0), (0, 0, 1, 0), (0, 0, 3, 0), (0, 0, 0, 2)]:
            self.check_by_grains(web, load, 0)
            self.check_by_numbers(web, load)
        self.assertEqual(settled(web, (10 ** 6, 0, 0, 0)), ((0, 2, 0, 0), (750000, 250000)))
        self.assertEqual(often(web, (10 ** 6, 0, 0, 0)), (10 ** 6, 749999, 0, 0))
        self.assertEqual(often(web, (0, 10 ** 6, 0, 0))[0], 0)

    def test_grains_that_hardly_get_home(self):
        for back in range(1, 8):
            web = chain(3, back, 8 - back)
            for load in [(1, 0, 0), (0, 1, 0), (0, 0, 1), (1, 1, 1), (3, 0, 2)]:
                self.check_by_grains(web, load, back)
            for house in range(8):
                great = chain(8, back, 8 - back)
                self.check_by_numbers(great, tuple([1 if other == house else 0 for other in range(8)]))
            self.check_by_numbers(great, (10 ** 6,) * 8)

    def test_great_loads(self):
        for seed in range(60):
            web = fixed_web(seed, 8, 8)
            source = random.Random(seed)
            many = len(web.dealers)
            self.check_by_numbers(web, (10 ** 6,) * many)
            self.check_by_numbers(web, tuple([source.choice([0, 1, 10 ** 6, 999983]) for _ in range(many)]))
            self.check_by_numbers(web, tuple([10 ** 6 if house == seed % many else 0 for house in range(many)]))
        doors = [(house + 1) % 8 for house in range(8)]
        for web in [Web(6, tuple([by_turns(tuple(range(-6, 0)) + (house, doors[house])) for house in range(8)])),
                    Web(1, (by_turns((-1,) * 8),) * 8),
                    Web(1, tuple([by_turns((-1,) + tuple([other for other in range(8) if other != house]))
                                  for house in range(8)]))]:
            self.check_by_numbers(web, (10 ** 6,) * 8)
            self.check_by_numbers(web, (10 ** 60,) + (0,) * 7)

    def test_cups_as_the_table_tells(self):
        for seed in range(40):
            web = fixed_web(seed, 6, 6)
            load = tuple([10 ** 6 - house * seed for house in range(len(web.dealers))])
            ends, cups = settled(web, load)
            for cup in range(web.cups):
                self.assertIsNotNone(share_table(web, cup))
                prices = {step: (1, 1) for step, (door, _) in plain_steps(web).items() if door == -1 - cup}
                self.assertEqual(told_bill(web, prices, load, ends), (cups[cup], 1))

    def test_errors_in_order(self):
        for call in (settled, often):
            for load in [None, (1,), (0, 0)]:
                self.assertIs(type(raised(call, FREE, load)), NotFixed)
            for load in odd_things() + NO_LOADS:
                self.assertIs(type(raised(call, W, load)), NoLoad)


if __name__ == "__main__":
    unittest.main()
