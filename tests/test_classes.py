"""6.2 and 6.3: loads of a web without choices that come to the same, their multiples and opposites."""

import random
import unittest
from itertools import product
from math import gcd, prod

from lastdoors.classes import alike_loads, classes, ends_of_class, many_classes, reduced
from lastdoors.errors import NoLoad, NotFixed, TooMany
from lastdoors.forests import all_ends
from lastdoors.making import by_turns
from lastdoors.numbering import many_forests
from lastdoors.powers import divisors, opposite, times_home
from lastdoors.settling import settled
from lastdoors.webs import Web
from tests.helpers import FREE, W, chain, fixed_web, odd_things, plain_alike, plain_lattice, raised
from tests.test_small import NO_LOADS


def home_alone(*many):
    """A web of houses that pass all on to the cup, with so many standings."""
    return Web(1, tuple([by_turns((-1,) * standings) for standings in many]))


def small_webs():
    return [W, home_alone(2, 2), home_alone(4, 6), home_alone(2, 6, 4), home_alone(1), home_alone(1, 1, 1),
            chain(3, 1, 1), chain(3, 2, 2), chain(2, 3, 2), Web(1, (by_turns((-1, 0, 0)), by_turns((0, 1, -1)))),
            ] + [fixed_web(seed, 3, 4) for seed in range(50)]


def times(many, load):
    return tuple([many * grains for grains in load])


def some_load(source, web):
    return tuple([source.choice([0, 1, source.randint(0, 30), source.randint(0, 10 ** 6)]) for _ in web.dealers])


class AlikeTest(unittest.TestCase):

    def test_by_hand(self):
        self.assertEqual(plain_lattice(W), [[2, -1], [-1, 2]])
        self.assertIs(alike_loads(W, (2, 1), (0, 2)), True)
        self.assertIs(alike_loads(W, (2, 1), (1, 2)), False)
        self.assertIs(alike_loads(W, (3, 0), (0, 0)), True)
        self.assertEqual(reduced(W, (2, 1)), (0, 2))
        self.assertEqual(reduced(W, (10 ** 6, 10 ** 6)), (0, 0))
        self.assertEqual(many_classes(W), 3)
        self.assertEqual(classes(W), [(0, 0), (0, 1), (0, 2)])

    def test_alike_against_the_lattice(self):
        alike = 0
        for seed, web in enumerate(small_webs()):
            source = random.Random(seed)
            rows = plain_lattice(web)
            for _ in range(6):
                one, other = some_load(source, web), some_load(source, web)
                self.assertIs(alike_loads(web, one, other), plain_alike(web, one, other))
                alike += alike_loads(web, one, other)
                moved = list(one)
                for row in rows:
                    many = source.randint(0, 5)
                    moved = [grains + many * part for grains, part in zip(moved, row)]
                if min(moved) >= 0:
                    self.assertIs(alike_loads(web, one, tuple(moved)), True)
            self.assertIs(alike_loads(web, one, one), True)
        self.assertGreater(alike, 20)

    def test_reduced_is_the_least(self):
        for seed, web in enumerate(small_webs()):
            source = random.Random(seed)
            load = some_load(source, web)
            least = reduced(web, load)
            self.assertIs(type(least), tuple)
            self.assertTrue(all(type(grains) is int for grains in least))
            self.assertTrue(plain_alike(web, least, load))
            self.assertEqual(reduced(web, least), least)
            bound = min(60, max(least) + 2)
            for other in product(range(bound), repeat=len(least)):
                if other >= least:
                    break
                self.assertFalse(plain_alike(web, other, load))

    def test_great_loads(self):
        web = chain(8, 3, 5)
        self.assertTrue(plain_alike(web, reduced(web, (10 ** 6,) * 8), (10 ** 6,) * 8))
        self.assertEqual(reduced(web, (10 ** 60,) * 8), reduced(web, reduced(web, (10 ** 60,) * 8)))

    def test_many_classes_is_the_number_of_ends(self):
        for web in small_webs():
            self.assertEqual(many_classes(web), len(all_ends(web)))
            self.assertEqual(many_classes(web), len(classes(web)))
        for seed in range(30):
            web = fixed_web(seed, 8, 8)
            self.assertEqual(many_classes(web), many_forests(web))
        self.assertEqual(many_classes(home_alone(*(8,) * 8)), 8 ** 8)
        self.assertEqual(many_classes(chain(8, 7, 1)), 1)

    def test_classes_are_all_reduced_tuples(self):
        for web in small_webs():
            found = classes(web)
            self.assertEqual(found, sorted(set(found)))
            self.assertIs(type(found), list)
            for one in found[:60]:
                self.assertEqual(reduced(web, one), one)
            for one, other in zip(found[:20], found[1:21]):
                self.assertFalse(plain_alike(web, one, other))

    def test_so_many_classes(self):
        self.assertEqual(len(classes(home_alone(8, 5, 5, 5, 5, 4))), 20000)
        for web in [home_alone(8, 8, 8, 8, 5), home_alone(*(8,) * 8), home_alone(3, 7, 7, 8, 3, 8)]:
            error = raised(classes, web)
            self.assertEqual((type(error), error.most), (TooMany, 20000))
        # The classes count, not the tuples of standings.
        self.assertEqual(classes(chain(8, 7, 1)), [(0,) * 8])
        classes(W).clear()
        self.assertEqual(len(classes(W)), 3)

    def test_the_seventh_fact(self):
        for seed, web in enumerate(small_webs()):
            source = random.Random(seed)
            loads = [tuple([source.randint(1, 9) for _ in web.dealers]) for _ in range(8)]
            for one in loads:
                for other in loads:
                    same = settled(web, one)[0] == settled(web, other)[0]
                    self.assertIs(alike_loads(web, one, other), same)

    def test_ends_of_class(self):
        for seed, web in enumerate(small_webs()):
            told = [ends_of_class(web, one) for one in classes(web)]
            self.assertEqual(sorted(told), all_ends(web))
            source = random.Random(seed)
            load = tuple([source.randint(1, 30) for _ in web.dealers])
            self.assertEqual(ends_of_class(web, load), settled(web, load)[0])
            # A load that is not full is alike to full ones, which have more of what is alike to nothing.
            thin = some_load(source, web)
            full = tuple([grains + many_classes(web) for grains in thin])
            self.assertEqual(ends_of_class(web, thin), settled(web, full)[0])
            self.assertEqual(ends_of_class(web, (0,) * len(load)), settled(web, (many_classes(web),) * len(load))[0])
        self.assertEqual(ends_of_class(W, (0, 0)), (1, 1))
        for seed in range(20):
            web = fixed_web(seed, 8, 8)
            load = (10 ** 6,) * len(web.dealers)
            self.assertEqual(ends_of_class(web, load), settled(web, load)[0])

    def test_errors_in_order(self):
        for load in [None, (1,), (0,)]:
            for call in (reduced, ends_of_class, times_home, opposite):
                self.assertIs(type(raised(call, FREE, load)), NotFixed)
            self.assertIs(type(raised(alike_loads, FREE, load, load)), NotFixed)
        for call in (many_classes, classes, divisors):
            self.assertIs(type(raised(call, FREE)), NotFixed)
        for load in odd_things() + NO_LOADS:
            for call in (reduced, ends_of_class, times_home, opposite):
                self.assertIs(type(raised(call, W, load)), NoLoad)
            self.assertIs(type(raised(alike_loads, W, load, (0, 0))), NoLoad)
            self.assertIs(type(raised(alike_loads, W, (0, 0), load)), NoLoad)


class PowersTest(unittest.TestCase):

    def test_by_hand(self):
        self.assertEqual(divisors(W), (3,))
        self.assertEqual(times_home(W, (0, 0)), 1)
        self.assertEqual(times_home(W, (1, 1)), 1)
        self.assertEqual(times_home(W, (1, 0)), 3)
        self.assertEqual(opposite(W, (0, 1)), (0, 2))
        self.assertEqual(opposite(W, (0, 0)), (0, 0))
        self.assertEqual(divisors(home_alone(2, 2)), (2, 2))
        self.assertEqual(divisors(home_alone(4, 6)), (2, 12))
        self.assertEqual(divisors(home_alone(6, 4, 1, 8)), (2, 4, 24))
        self.assertEqual(divisors(home_alone(2, 3, 5, 7)), (210,))
        self.assertEqual(divisors(home_alone(1, 1)), ())
        self.assertEqual(divisors(home_alone(*(8,) * 8)), (8,) * 8)
        self.assertEqual(divisors(chain(8, 7, 1)), ())

    def test_times_home_against_multiples(self):
        for seed, web in enumerate(small_webs()):
            source = random.Random(seed)
            none = (0,) * len(web.dealers)
            for load in classes(web)[:40] + [some_load(source, web)]:
                many = 1
                while not plain_alike(web, times(many, load), none):
                    many += 1
                self.assertEqual(times_home(web, load), many)

    def test_opposite(self):
        for seed, web in enumerate(small_webs()):
            source = random.Random(seed)
            for load in classes(web)[:20] + [some_load(source, web)]:
                other = opposite(web, load)
                self.assertEqual(reduced(web, other), other)
                both = tuple([a + b for a, b in zip(load, other)])
                self.assertTrue(plain_alike(web, both, (0,) * len(load)))

    def test_divisors_against_all_classes(self):
        rings = 0
        for web in small_webs():
            told = divisors(web)
            rings += len(told) > 1
            self.assertIs(type(told), tuple)
            self.assertTrue(all(type(one) is int and one >= 2 for one in told))
            self.assertTrue(all(other % one == 0 for one, other in zip(told, told[1:])))
            self.assertEqual(prod(told), many_classes(web))
            found = [times_home(web, one) for one in classes(web)]
            for many in range(1, 2 + 2 * max(found)):
                home = len([one for one in found if many % one == 0])
                self.assertEqual(home, prod([gcd(many, one) for one in told]))
        self.assertGreater(rings, 4)

    def test_large_webs(self):
        for seed in range(30):
            web = fixed_web(seed, 8, 8)
            told = divisors(web)
            self.assertEqual(prod(told), many_classes(web))
            load = (10 ** 6,) * len(web.dealers)
            many = times_home(web, load)
            self.assertTrue(not told or told[-1] % many == 0)
            self.assertEqual(reduced(web, times(many, load)), (0,) * len(load))


if __name__ == "__main__":
    unittest.main()
