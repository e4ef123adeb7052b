"""9.1: webs that are put together, and loads that are added."""

import random
import unittest
from itertools import permutations, product

from lastdoors.errors import BadWeb, NoCup, NoHouse, NoLoad, NoNumbers, NoOrder, TooMany
from lastdoors.joining import behind, beside, loads_add, renumbered, without_choice
from lastdoors.making import by_turns, freely
from lastdoors.plays import are_moves, is_play, played
from lastdoors.settling import is_fixed
from lastdoors.tables import table
from lastdoors.webs import Web, steps
from tests.helpers import FREE, W, made_webs, odd_things, raised, random_play, some_web


def plain_web(houses, cups):
    """A web of so many houses and cups, each house of which leads to the last cup."""
    return Web(cups, (by_turns((-cups,)),) * houses)


def numbers_by_doors(web, moves, dealers, renamed):
    """The moves of dealers whose doors are renamed that go by the doors and standings of these moves."""
    stands, found = [0] * len(web.dealers), []
    for house, number in moves:
        door, after = web.dealers[house][stands[house]][number]
        found.append(dealers[house][stands[house]].index((renamed(door), after)))
        stands[house] = after
    return found


class BesideTest(unittest.TestCase):

    def test_by_the_words(self):
        one = Web(2, (by_turns((-1, 1)), freely((-2, 0))))
        other = Web(1, (freely((-1, 0)),))
        self.assertEqual(beside(one, other),
                         Web(3, (by_turns((-1, 1)), freely((-2, 0)), freely((-3, 2)))))
        self.assertEqual(beside(other, one),
                         Web(3, (freely((-1, 0)), by_turns((-2, 2)), freely((-3, 1)))))

    def test_plays_of_both_one_behind_another(self):
        for seed in range(40):
            one, other = some_web(seed, 3), some_web(seed + 1000, 3)
            first, second = (1,) * len(one.dealers), (2,) * len(other.dealers)
            ahead, _ = random_play(seed, one, first)
            after, _ = random_play(seed, other, second)
            web = beside(one, other)
            self.assertEqual((web.cups, len(web.dealers)), (one.cups + other.cups, len(first) + len(second)))
            moves = ahead + tuple([(house + len(first), number) for house, number in after])
            told = [a + b for a, b in zip(played(one, first, ahead), played(other, second, after))]
            self.assertEqual(played(web, first + second, moves), tuple(told))
            self.assertIs(is_play(web, first + second, moves), True)
            self.assertEqual(len(steps(web)), len(steps(one)) + len(steps(other)))

    def test_how_many_houses_and_cups(self):
        for houses, others in [(7, 1), (4, 4), (1, 7)]:
            self.assertEqual(len(beside(plain_web(houses, 1), plain_web(others, 1)).dealers), 8)
        for cups, others in [(5, 1), (3, 3), (1, 5)]:
            self.assertEqual(beside(plain_web(1, cups), plain_web(1, others)).cups, 6)
        for houses, others, cups in [(8, 1, 1), (5, 4, 1), (8, 8, 6)]:
            error = raised(beside, plain_web(houses, cups), plain_web(others, cups))
            self.assertIsInstance(error, TooMany)
            self.assertEqual(error.most, 8)
        for cups, others in [(6, 1), (4, 3), (1, 6), (6, 6)]:
            error = raised(beside, plain_web(4, cups), plain_web(4, others))
            self.assertIsInstance(error, TooMany)
            self.assertEqual(error.most, 6)


class BehindTest(unittest.TestCase):

    def test_by_the_words(self):
        one = Web(2, (by_turns((-1, 1)), freely((-2, 0))))
        other = Web(1, (freely((-1, 1)), by_turns((-1,))))
        self.assertEqual(behind(one, 0, other, 1),
                         Web(3, (by_turns((3, 1)), freely((-2, 0)), freely((-3, 3)), by_turns((-3,)))))
        # The steps of the second house are put in order again.
        self.assertEqual(behind(one, 1, other, 0),
                         Web(3, (by_turns((-1, 1)), freely((0, 2)), freely((-3, 3)), by_turns((-3,)))))

    def test_plays_of_both_one_behind_another(self):
        source = random.Random(9)
        for seed in range(40):
            one, other = some_web(seed, 3), some_web(seed + 500, 3)
            houses = len(one.dealers)
            cup, house = source.randrange(one.cups), source.randrange(len(other.dealers))
            web = behind(one, cup, other, house)
            first, second = (2,) * houses, (1,) * len(other.dealers)
            ahead, _ = random_play(seed, one, first)
            _, ends, cups = played(one, first, ahead)
            brought = tuple([many + (cups[cup] if k == house else 0) for k, many in enumerate(second)])
            after, _ = random_play(seed, other, brought)
            numbers = numbers_by_doors(one, ahead, web.dealers,
                                       lambda door: houses + house if door == -1 - cup else door)
            moves = tuple([(move[0], number) for move, number in zip(ahead, numbers)])
            moves += tuple([(own + houses, number) for own, number in after])
            _, others, filled = played(other, brought, after)
            left = cups[:cup] + (0,) + cups[cup + 1:]
            self.assertEqual(played(web, first + second, moves),
                             ((0,) * len(web.dealers), ends + others, left + filled))

    def test_errors_in_their_order(self):
        for cup in [2, -1, None, True, False, "0", (0,), 10 ** 60]:
            self.assertIsInstance(raised(behind, W, cup, plain_web(8, 6), None), NoCup)
        for house in [2, -1, None, True, False, "0", (0,), 10 ** 60]:
            self.assertIsInstance(raised(behind, plain_web(8, 2), 1, W, house), NoHouse)
        error = raised(behind, plain_web(7, 6), 5, W, 1)
        self.assertEqual((type(error), error.most), (TooMany, 8))
        error = raised(behind, plain_web(6, 6), 5, W, 1)
        self.assertEqual((type(error), error.most), (TooMany, 6))
        self.assertEqual(len(behind(plain_web(6, 4), 3, W, 1).dealers), 8)
        self.assertEqual(behind(plain_web(6, 4), 3, W, 1).cups, 6)


class RenumberedTest(unittest.TestCase):

    def test_by_the_words(self):
        web = Web(2, (freely((-1, 1, 2)), by_turns((0, 2)), freely((-2, 0))))
        self.assertEqual(renumbered(web, (2, 0, 1)), Web(2, (freely((-2, 1)), freely((-1, 0, 2)), by_turns((1, 0)))))

    def test_against_its_own_inverse(self):
        for seed in range(40):
            web = some_web(seed)
            for order in permutations(range(len(web.dealers))):
                inverse = tuple([order.index(house) for house in range(len(order))])
                changed = renumbered(web, order)
                self.assertEqual(renumbered(changed, inverse), web)
                for new, old in enumerate(order):
                    for standing, pairs in enumerate(web.dealers[old]):
                        renamed = [(inverse[door] if door >= 0 else door, after) for door, after in pairs]
                        self.assertEqual(sorted(renamed), list(changed.dealers[new][standing]))

    def test_tables_go_along(self):
        web = Web(2, (by_turns((-1, 1)), by_turns((-2, 0))))
        worths, leads = table(web, {(0, 0, 0): (1, 1)})
        other = table(renumbered(web, (1, 0)), {(1, 0, 0): (1, 1)})
        self.assertEqual(other, ((worths[1], worths[0]), (leads[1], leads[0])))

    def test_orders_that_are_none(self):
        for order in [[0, 1], (0,), (0, 0), (1, 1), (0, 1, 2), (0, 2), (-1, 0), (False, True), (False, 1), (0, True),
                      (0, None), ("0", "1"), None, (), 0, "01", {0: 0, 1: 1}, (0, (1,)), (0, 10 ** 60)]:
            self.assertIsInstance(raised(renumbered, W, order), NoOrder, order)
        for thing in odd_things():
            self.assertIsInstance(raised(renumbered, W, thing), NoOrder)
        self.assertEqual(renumbered(FREE, (0,)), FREE)


class WithoutChoiceTest(unittest.TestCase):

    def test_by_the_words(self):
        web = Web(2, (freely((-2, -1)), (((-1, 1), (0, 0)), ((-2, 0),))))
        self.assertEqual(without_choice(web, ((1,), (0, 0))), Web(2, (freely((-1,)), (((-1, 1),), ((-2, 0),)))))
        self.assertEqual(without_choice(web, ((0,), (0, 0))), Web(2, (freely((-2,)), (((-1, 1),), ((-2, 0),)))))

    def test_none_where_standings_do_not_lead_on(self):
        web = Web(2, (freely((-2, -1)), (((-1, 0), (-1, 1)), ((-2, 0),))))
        self.assertIsNone(without_choice(web, ((0,), (0, 0))))
        self.assertIsNotNone(without_choice(web, ((0,), (1, 0))))

    def test_none_where_doors_do_not_lead_on(self):
        web = Web(1, (freely((-1, 1)), freely((-1, 0))))
        self.assertIsNone(without_choice(web, ((1,), (1,))))
        self.assertIsNotNone(without_choice(web, ((1,), (0,))))

    def test_against_making_the_web(self):
        none = 0
        for seed in range(40):
            web = some_web(seed, 2, 3, 3)
            for numbers in product(*[product(*[range(len(pairs)) for pairs in dealer]) for dealer in web.dealers]):
                dealers = tuple([tuple([(pairs[number],) for pairs, number in zip(dealer, row)])
                                 for dealer, row in zip(web.dealers, numbers)])
                found = without_choice(web, numbers)
                if found is None:
                    none += 1
                    self.assertIsInstance(raised(Web, web.cups, dealers), BadWeb)
                else:
                    self.assertEqual(found, Web(web.cups, dealers))
                    self.assertIs(is_fixed(found), True)
        self.assertGreater(none, 20)

    def test_what_is_no_numbers(self):
        for numbers in [((0, 0), (0,)), ((0, 0),), ((0, 0), (0, 0), (0,)), [(0, 0), (0, 0)], ([0, 0], (0, 0)),
                        ((0, 1), (0, 0)), ((0, -1), (0, 0)), ((0, False), (0, 0)), ((0, None), (0, 0)),
                        ((0, 0), None), None, (), (0, 0), "00", ((0, 0, 0), (0, 0)), ((0, "0"), (0, 0))]:
            self.assertIsInstance(raised(without_choice, W, numbers), NoNumbers, numbers)
        self.assertIsInstance(raised(without_choice, FREE, ((2,),)), NoNumbers)
        for thing in odd_things():
            self.assertIsInstance(raised(without_choice, W, thing), NoNumbers)
        for web in made_webs():
            self.assertIsNone(raised(without_choice, web, tuple([(0,) * len(dealer) for dealer in web.dealers])))


class LoadsTest(unittest.TestCase):

    def test_loads_add(self):
        self.assertEqual(loads_add(W, (1, 0), (2, 5)), (3, 5))
        self.assertEqual(loads_add(W, (0, 0), (0, 0)), (0, 0))
        self.assertEqual(loads_add(W, (10 ** 60, 1), (10 ** 60, 0)), (2 * 10 ** 60, 1))

    def test_no_load_for_each(self):
        for thing in [(1,), (1, 2, 3), [1, 2], (1, -1), (1, True), (1, None), None, "12"] + odd_things():
            self.assertIsInstance(raised(loads_add, W, thing, (1, 1)), NoLoad)
            self.assertIsInstance(raised(loads_add, W, (1, 1), thing), NoLoad)

    def test_moves_of_the_one_go_on_in_both(self):
        moves, _ = random_play(1, W, (2, 2))
        self.assertIs(are_moves(beside(W, FREE), moves), True)


if __name__ == "__main__":
    unittest.main()
