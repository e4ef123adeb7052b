"""4.1: forests, and the ends that can come."""

import unittest
from itertools import product

from lastdoors.errors import NoEnds, TooMany
from lastdoors.forests import all_ends, can_end, forest_for, is_forest
from lastdoors.making import by_turns, freely
from lastdoors.webs import Web, next_of
from tests.helpers import (FREE, W, leads_home, made_webs, odd_things, plain_forests, plain_steps, raised,
                           random_play, some_web)

NO_ENDS = [(0,), (0, 0, 0), (0, 2), (2, 0), (-1, 0), (0, True), (False, 0), [0, 0], (0, None), ((0,), 0), {0: 0}]


def small_webs():
    return made_webs()[:4] + [some_web(seed, 3, 3, 3) for seed in range(60)]


class IsForestTest(unittest.TestCase):

    def test_by_hand(self):
        self.assertIs(is_forest(W, ((0, 0, 0), (1, 0, 0))), True)
        self.assertIs(is_forest(W, ((0, 1, 0), (1, 0, 0))), True)
        self.assertIs(is_forest(W, ((0, 0, 0), (1, 1, 0))), True)
        self.assertIs(is_forest(W, ((0, 1, 0), (1, 1, 0))), False)
        self.assertIs(is_forest(FREE, ((0, 0, 1),)), True)
        loop = Web(1, (freely((-1, 0)),))
        self.assertIs(is_forest(loop, ((0, 0, 0),)), True)
        self.assertIs(is_forest(loop, ((0, 0, 1),)), False)

    def test_all_choices_of_steps(self):
        for web in small_webs():
            by_house = [[step for step in plain_steps(web) if step[0] == k] for k in range(len(web.dealers))]
            for chosen in product(*by_house):
                self.assertIs(is_forest(web, chosen), leads_home(web, chosen))

    def test_a_long_way_home(self):
        dealers = [freely((house, house + 1)) if house < 7 else freely((-1, 7)) for house in range(8)]
        web = Web(1, tuple(dealers))
        forest = tuple([(house, 0, 1) for house in range(7)]) + ((7, 0, 0),)
        self.assertTrue(is_forest(web, forest))
        for house in range(8):
            changed = forest[:house] + ((house, 0, 1 - forest[house][2]),) + forest[house + 1:]
            self.assertFalse(is_forest(web, changed))

    def test_other_things(self):
        forest = ((0, 0, 0), (1, 0, 0))
        for thing in odd_things() + [list(forest), forest[:1], forest + forest[1:], forest[::-1],
                                     (forest[0], forest[0]), (forest[0], None), (forest[0], (1, 0)),
                                     (forest[0], (1, 0, False)), (forest[0], (1, 2, 0)), (forest[0], (1, 0, 1)),
                                     (forest[0], [1, 0, 0]), dict(enumerate(forest))]:
            self.assertIs(is_forest(W, thing), False)


class EndsTest(unittest.TestCase):

    def test_by_hand(self):
        self.assertEqual(all_ends(W), [(0, 1), (1, 0), (1, 1)])
        self.assertEqual(all_ends(FREE), [(0,)])
        self.assertIs(can_end(W, (1, 1)), True)
        self.assertIs(can_end(W, (0, 0)), False)
        self.assertEqual(forest_for(W, (0, 1)), ((0, 1, 0), (1, 0, 0)))
        self.assertIsNone(forest_for(W, (0, 0)))

    def test_against_all_choices_of_steps(self):
        for web in small_webs():
            found = {tuple([plain_steps(web)[step][1] for step in forest]) for forest in plain_forests(web)}
            self.assertEqual(all_ends(web), sorted(found))
            for ends in product(*[range(len(dealer)) for dealer in web.dealers]):
                self.assertIs(can_end(web, ends), ends in found)
                forest = forest_for(web, ends)
                self.assertEqual(forest is not None, ends in found)
                if forest is not None:
                    self.assertTrue(is_forest(web, forest))
                    self.assertEqual(tuple([next_of(web, step) for step in forest]), ends)

    def test_the_fourth_fact(self):
        for web in small_webs():
            told = all_ends(web)
            for seed in range(10):
                load = tuple([1 + (seed + house) % 3 for house in range(len(web.dealers))])
                self.assertIn(random_play(seed, web, load)[1], told)

    def test_no_ends(self):
        for ends in odd_things() + NO_ENDS:
            self.assertIs(type(raised(can_end, W, ends)), NoEnds)
            self.assertIs(type(raised(forest_for, W, ends)), NoEnds)

    def test_returned_lists_are_new(self):
        all_ends(W).clear()
        self.assertEqual(all_ends(W), [(0, 1), (1, 0), (1, 1)])

    def test_many_ends(self):
        def web_of(numbers):
            return Web(1, tuple([by_turns((-1,) * many) for many in numbers]))
        self.assertEqual(len(all_ends(web_of((8, 8, 8, 8)))), 4096)
        self.assertEqual(len(all_ends(web_of((8, 5, 5, 5, 5, 4)))), 20000)
        for numbers in ((8, 8, 8, 8, 5), (3, 7, 7, 8, 3, 8), (8,) * 8):
            error = raised(all_ends, web_of(numbers))
            self.assertEqual((type(error), error.most), (TooMany, 20000))
        # The numbers of standings count, not how many ends can come.
        one_end = [((-1, 0), (house, 1)) for house in range(5)]
        dealers = tuple([(pairs,) + tuple([((house, (k + 1) % 8),) for k in range(1, 8)])
                         for house, pairs in enumerate(one_end)])
        self.assertIs(type(raised(all_ends, Web(1, dealers))), TooMany)
        self.assertEqual(all_ends(Web(1, dealers[:4])), [(0, 0, 0, 0)])


if __name__ == "__main__":
    unittest.main()
