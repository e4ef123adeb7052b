"""4.2: plays to told last doors."""

import random
import unittest

from lastdoors.errors import NoForest
from lastdoors.making import by_turns
from lastdoors.plays import is_play, last_steps
from lastdoors.reaching import reached_by
from lastdoors.webs import Web
from tests.helpers import FREE, W, made_webs, odd_things, plain_forests, plain_steps, raised, some_web
from tests.test_numbering import NO_FORESTS, small_webs


class ReachedByTest(unittest.TestCase):

    def check(self, web, forest):
        found = reached_by(web, forest)
        self.assertIs(type(found), tuple)
        load, moves = found
        self.assertIs(type(load), tuple)
        self.assertTrue(all(type(many) is int and many >= 1 for many in load))
        self.assertIs(is_play(web, load, moves), True)
        self.assertEqual(last_steps(web, moves), forest)
        return moves

    def test_by_hand(self):
        for forest in [((0, 0, 0), (1, 0, 0)), ((0, 0, 0), (1, 1, 0)), ((0, 1, 0), (1, 0, 0))]:
            self.check(W, forest)
        self.check(FREE, ((0, 0, 0),))
        self.check(FREE, ((0, 0, 1),))

    def test_all_forests_of_small_webs(self):
        for web in small_webs() + made_webs():
            forests = plain_forests(web)
            for forest in forests[:30] + forests[-10:]:
                self.check(web, forest)

    def test_large_webs(self):
        for seed in range(40):
            web = some_web(seed, 8, 8, 6)
            source = random.Random(seed)
            for _ in range(3):
                self.check(web, self.some_forest(source, web))

    def some_forest(self, source, web):
        """A forest by chance, grown from the cups."""
        forest = {}
        while len(forest) < len(web.dealers):
            ready = [step for step, (door, _) in plain_steps(web).items()
                     if step[0] not in forest and (door < 0 or door in forest)]
            step = source.choice(ready)
            forest[step[0]] = step
        return tuple([forest[house] for house in range(len(forest))])

    def test_few_grains_get_home(self):
        # Each house sends seven grains back for one that it sends on.
        web = Web(1, tuple([by_turns((max(0, house - 1),) * 7 + (house + 1 if house < 4 else -1,))
                            for house in range(5)]))
        self.check(web, tuple([(house, 7, 0) for house in range(5)]))

    def test_one_good_door_at_each_standing(self):
        # All grains can be sent home; where each dealer went by its first doors, hardly any would be.
        dealers = []
        for house in range(8):
            home = house - 1 if house > 0 else -1
            away = 7 if house < 7 else 0
            dealers.append(tuple([tuple(sorted([(home, (k + 1) % 8), (away, (k + 1) % 8)])) for k in range(8)]))
        web = Web(1, tuple(dealers))
        forest = tuple([(house, 7, 0 if house < 7 else 1) for house in range(8)])
        self.assertLess(len(self.check(web, forest)), 1000)

    def test_no_forest(self):
        for forest in odd_things() + NO_FORESTS:
            self.assertIs(type(raised(reached_by, W, forest)), NoForest)


if __name__ == "__main__":
    unittest.main()
