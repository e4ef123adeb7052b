"""3.4: plays of one load whose bills are far apart."""

import unittest
from fractions import Fraction

from lastdoors.apart import far_apart
from lastdoors.errors import NoGap, NoPrices
from lastdoors.making import by_turns
from lastdoors.plays import is_play
from lastdoors.tables import bill, table
from lastdoors.webs import Web
from tests.helpers import (FREE, P, W, chosen_prices, fixed_web, made_webs, odd_things, raised, some_prices,
                           some_web)
from tests.test_tables import no_prices


class FarApartTest(unittest.TestCase):

    def check(self, web, prices, gap):
        found = far_apart(web, prices, gap)
        self.assertEqual(found is None, table(web, prices) is not None)
        if found is None:
            return 0
        self.assertIs(type(found), tuple)
        load, one, other = found
        self.assertTrue(all(type(many) is int and many >= 1 for many in load))
        self.assertIs(type(load), tuple)
        self.assertTrue(is_play(web, load, one))
        self.assertTrue(is_play(web, load, other))
        apart = Fraction(*bill(web, prices, one)) - Fraction(*bill(web, prices, other))
        self.assertGreaterEqual(apart, gap)
        self.assertGreater(apart, 0)
        return 1

    def test_by_hand(self):
        for gap in range(6):
            self.assertEqual(self.check(FREE, {(0, 0, 0): (1, 1)}, gap), 1)
            self.assertEqual(self.check(FREE, {(0, 0, 1): (1, 1)}, gap), 1)
            self.assertEqual(self.check(FREE, {(0, 0, 1): (-1, 6)}, gap), 1)
            self.assertIsNone(far_apart(FREE, {}, gap))
            self.assertIsNone(far_apart(W, P, gap))

    def test_all_gaps(self):
        found = 0
        for seed in range(60):
            web = some_web(seed)
            for gap in range(6):
                found += self.check(web, some_prices(seed, web, 0.3), gap)
        self.assertGreater(found, 200)

    def test_all_kinds_of_dealers(self):
        found = 0
        for web in made_webs():
            for seed in range(6):
                found += self.check(web, some_prices(seed, web), 5)
        self.assertGreater(found, 10)

    def test_large_webs(self):
        for seed in range(15):
            web = some_web(seed, 4, 8, 6)
            self.check(web, some_prices(seed, web), 5)
            self.check(web, some_prices(seed, web, 0.05), 1)

    def test_few_grains_get_home(self):
        # Each house sends seven grains back for one that it sends on.
        dealers = [by_turns((max(0, house - 1),) * 7 + (house + 1 if house < 3 else -1,)) for house in range(4)]
        first = (((0, 1), (1, 0)),) + dealers[0][1:]
        web = Web(1, (first,) + tuple(dealers[1:]))
        self.assertEqual(self.check(web, {(0, 0, 0): (1, 6), (3, 2, 0): (1, 5)}, 5), 1)

    def test_none_where_there_is_a_table(self):
        for seed in range(20):
            web = some_web(seed)
            self.assertIsNone(far_apart(web, chosen_prices(seed, web)[1], 3))
            fixed = fixed_web(seed)
            self.assertIsNone(far_apart(fixed, some_prices(seed, fixed), 0))

    def test_errors_in_order(self):
        for prices in no_prices():
            self.assertIs(type(raised(far_apart, W, prices, None)), NoPrices)
        for gap in odd_things() + [6, -1, (1, 1)]:
            # A wrong gap is an error also where there is a table.
            self.assertIs(type(raised(far_apart, W, P, gap)), NoGap)
            self.assertIs(type(raised(far_apart, FREE, {(0, 0, 0): (1, 1)}, gap)), NoGap)


if __name__ == "__main__":
    unittest.main()
