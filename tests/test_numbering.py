"""4.5: how many forests there are, and which one has which number."""

import random
import unittest

from lastdoors.errors import NoForest, NoNumber
from lastdoors.forests import is_forest
from lastdoors.making import by_turns, freely
from lastdoors.numbering import forest_at, forest_number, many_forests
from lastdoors.webs import Web
from tests.helpers import FREE, W, made_webs, odd_things, plain_forests, raised, some_web

NO_FORESTS = [((0, 1, 0), (1, 1, 0)), ((0, 0, 0),), ((0, 0, 0), (0, 0, 0)), [(0, 0, 0), (1, 0, 0)],
              ((0, 0, 0), (1, 0, 0), (1, 0, 0)), ((0, 0, 0), None), ((0, 0, 0), (1, 0, False)),
              ((1, 0, 0), (0, 0, 0)), ((0, 0, 0), (1, 2, 0))]


def small_webs():
    return made_webs()[:4] + [some_web(seed, 3, 3, 3) for seed in range(60)]


class NumberingTest(unittest.TestCase):

    def test_by_hand(self):
        self.assertEqual(many_forests(W), 3)
        self.assertEqual(forest_at(W, 0), ((0, 0, 0), (1, 0, 0)))
        self.assertEqual(forest_at(W, 1), ((0, 0, 0), (1, 1, 0)))
        self.assertEqual(forest_at(W, 2), ((0, 1, 0), (1, 0, 0)))
        self.assertEqual(forest_number(W, ((0, 1, 0), (1, 0, 0))), 2)
        self.assertEqual(many_forests(FREE), 2)
        self.assertEqual(many_forests(Web(1, (freely((-1, 0)),))), 1)
        self.assertEqual(forest_number(Web(1, (freely((-1, 0)),)), ((0, 0, 0),)), 0)

    def test_all_forests_of_small_webs(self):
        for web in small_webs():
            forests = sorted(plain_forests(web))
            many = many_forests(web)
            self.assertEqual(many, len(forests))
            self.assertIs(type(many), int)
            for number in range(0, many, 1 + many // 40):
                self.assertEqual(forest_at(web, number), forests[number])
                self.assertEqual(forest_number(web, forests[number]), number)
            self.assertEqual(forest_at(web, many - 1), forests[-1])

    def test_large_webs(self):
        full = Web(6, (tuple([tuple([(door, (k + 1) % 8) for door in range(-6, 0)]) for k in range(8)]),) * 8)
        self.assertEqual(many_forests(full), 48 ** 8)
        last = tuple([(house, 7, 5) for house in range(8)])
        self.assertEqual(forest_at(full, 48 ** 8 - 1), last)
        self.assertEqual(forest_number(full, last), 48 ** 8 - 1)
        # Each house passes on to every house and to the one cup: as many forests as trees on nine places.
        all_doors = Web(1, tuple([tuple([tuple([(door, k ^ 1) for door in (range(-1, 4), range(4, 8))[k]])
                                         for k in range(2)]) for _ in range(8)]))
        self.assertEqual(many_forests(all_doors), 9 ** 7)
        for seed in range(20):
            web = some_web(seed, 8, 8, 6)
            many = many_forests(web)
            before = ()
            for number in sorted(random.Random(seed).sample(range(many), min(many, 6))):
                forest = forest_at(web, number)
                self.assertTrue(is_forest(web, forest))
                self.assertLess(before, forest)
                self.assertEqual(forest_number(web, forest), number)
                before = forest

    def test_one_forest_alone(self):
        chain = Web(1, tuple([by_turns((max(0, house - 1),) * 7 + (house + 1 if house < 7 else -1,))
                              for house in range(8)]))
        self.assertEqual(many_forests(chain), 1)
        self.assertEqual(forest_at(chain, 0), tuple([(house, 7, 0) for house in range(8)]))

    def test_no_number(self):
        for number in odd_things() + [3, -1, 10 ** 60, True, False, (0,), [0]]:
            self.assertIs(type(raised(forest_at, W, number)), NoNumber)
        self.assertIs(type(raised(forest_at, Web(1, (by_turns((-1,)),)), True)), NoNumber)

    def test_no_forest(self):
        for forest in odd_things() + NO_FORESTS:
            self.assertIs(type(raised(forest_number, W, forest)), NoForest)


if __name__ == "__main__":
    unittest.main()
