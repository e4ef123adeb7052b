"""3.1, 3.2, 3.5: bills, tables, and what they tell."""

import unittest
from fractions import Fraction

from lastdoors.errors import NoCup, NoEnds, NoLoad, NoMoves, NoPrices, NoTable
from lastdoors.making import by_turns, freely
from lastdoors.plays import used
from lastdoors.tables import bill, is_table, share_table, table, told_bill
from lastdoors.webs import Web
from tests.helpers import (FREE, P, W, chosen_prices, fixed_web, made_webs, odd_things, pair, plain_steps,
                           plain_table, raised, random_play, some_prices, some_web)

NO_PRICES = [
    {(2, 0, 0): (1, 1)}, {(0, 0, 1): (1, 1)}, {(0, 0): (1, 1)}, {0: (1, 1)}, {None: (1, 1)}, {"000": (1, 1)},
    {(0, 0, 0): 1}, {(0, 0, 0): (1,)}, {(0, 0, 0): (1, 1, 1)}, {(0, 0, 0): [1, 1]}, {(0, 0, 0): (2, 4)},
    {(0, 0, 0): (0, 2)}, {(0, 0, 0): (1, 0)}, {(0, 0, 0): (1, -1)}, {(0, 0, 0): (-1, -1)},
    {(0, 0, 0): (True, 1)}, {(0, 0, 0): (1, True)}, {(0, 0, 0): (10 ** 9 + 1, 1)},
    {(0, 0, 0): (-(10 ** 9) - 1, 1)}, {(0, 0, 0): (1, 10 ** 6 + 1)}, {(0, 0, 0): None}, {(0, 0, 0): "1/1"},
    {(0, 0, 0): (1, 1), (1, 0, 0): (2, 2)}, {(0, 0, 0): ((1,), 1)}, [((0, 0, 0), (1, 1))], ((0, 0, 0), (1, 1)),
]
NO_MOVES = [((0, 1),), [(0, 0)], ((2, 0),), ((0, True),)]


def no_prices():
    return odd_things() + NO_PRICES


class BillTest(unittest.TestCase):

    def test_by_hand(self):
        self.assertEqual(bill(W, P, ((0, 0), (0, 0), (0, 0), (1, 0))), (2, 1))
        self.assertEqual(bill(W, {(0, 0, 0): (1, 2), (0, 1, 0): (-1, 3)}, ((0, 0), (0, 0))), (1, 6))
        self.assertEqual(bill(FREE, {(0, 0, 0): (-5, 2)}, ((0, 0), (0, 0))), (-5, 1))
        self.assertEqual(bill(FREE, {(0, 0, 0): (1, 2), (0, 0, 1): (-1, 2)}, ((0, 0), (0, 1))), (0, 1))

    def test_nothing(self):
        self.assertEqual(bill(W, P, ()), (0, 1))
        self.assertEqual(bill(W, {}, ((0, 0),)), (0, 1))
        self.assertEqual(bill(W, {}, ()), (0, 1))
        self.assertEqual(bill(W, {(0, 0, 0): (0, 1)}, ((0, 0),)), (0, 1))

    def test_bounds(self):
        prices = {(0, 0, 0): (10 ** 9, 999999), (0, 0, 1): (-(10 ** 9), 1)}
        self.assertEqual(bill(FREE, prices, ((0, 0), (0, 1))), pair(Fraction(10 ** 9, 999999) - 10 ** 9))
        self.assertEqual(bill(FREE, {(0, 0, 0): (-1, 10 ** 6)}, ((0, 0),)), (-1, 10 ** 6))
        self.assertEqual(bill(FREE, {(0, 0, 0): (10 ** 9, 1)}, ((0, 0),) * 30000), (3 * 10 ** 13, 1))

    def test_as_it_is_counted(self):
        for seed in range(40):
            web = some_web(seed)
            prices = some_prices(seed, web)
            moves = random_play(seed, web, (2,) * len(web.dealers))[0]
            told = sum([Fraction(*prices.get(step, (0, 1))) * many for step, many in used(web, moves).items()])
            self.assertEqual(bill(web, prices, moves), pair(Fraction(told)))

    def test_errors_in_order(self):
        for prices in no_prices():
            self.assertIs(type(raised(bill, W, prices, None)), NoPrices, prices)
        for moves in odd_things() + NO_MOVES:
            self.assertIs(type(raised(bill, W, P, moves)), NoMoves)


class TableTest(unittest.TestCase):

    def test_by_hand(self):
        found = (((2, 3), (1, 3)), (((0, 1), (1, 3)), ((0, 1), (-1, 3))))
        self.assertEqual(table(W, P), found)
        self.assertIsNone(table(FREE, {(0, 0, 0): (1, 1)}))
        self.assertEqual(table(FREE, {(0, 0, 0): (1, 2), (0, 0, 1): (1, 2)}), (((1, 2),), (((0, 1),),)))
        self.assertEqual(table(W, {}), (((0, 1), (0, 1)), (((0, 1), (0, 1)), ((0, 1), (0, 1)))))

    def test_of_chosen_worths_and_leads(self):
        for seed in range(60):
            web = some_web(seed)
            found, prices = chosen_prices(seed, web)
            self.assertEqual(table(web, prices), found)
            self.assertIs(is_table(web, prices, found), True)

    def test_against_all_equations_as_they_stand(self):
        none = 0
        for seed in range(150):
            web = some_web(seed) if seed % 3 else fixed_web(seed)
            prices = some_prices(seed, web)
            found = plain_table(web, prices)
            self.assertEqual(table(web, prices), found)
            none += found is None
        self.assertTrue(20 < none < 130)

    def test_one_price_changed(self):
        none = 0
        for seed in range(40):
            web = some_web(seed, 3, 3)
            found, prices = chosen_prices(seed, web)
            for step in prices:
                changed = dict(prices)
                changed[step] = pair(Fraction(*prices[step]) + Fraction(1, 7))
                other = table(web, changed)
                self.assertEqual(other, plain_table(web, changed))
                self.assertFalse(is_table(web, changed, found))
                none += other is None
        self.assertGreater(none, 50)

    def test_a_large_web(self):
        web = some_web(3, 8, 8, 6)
        found, prices = chosen_prices(3, web)
        self.assertEqual(table(web, prices), found)
        full = tuple([tuple([tuple([(door, (k + 1) % 8) for door in range(-6, 0)]) for k in range(8)])] * 8)
        self.assertEqual(table(Web(6, full), {}), (((0, 1),) * 8, (((0, 1),) * 8,) * 8))

    def test_unlike_bottoms(self):
        bottoms = [999983, 999979, 999961, 999959, 999953, 999931, 999917, 999907]
        prices = {(0, k, 0): (1, bottom) for k, bottom in enumerate(bottoms)}
        web = Web(1, (by_turns((-1,) * 8),))
        worths, leads = table(web, prices)
        self.assertEqual(Fraction(*worths[0]), sum([Fraction(1, bottom) for bottom in bottoms]) / 8)
        self.assertTrue(is_table(web, prices, (worths, leads)))

    def test_no_prices(self):
        for prices in no_prices():
            self.assertIs(type(raised(table, W, prices)), NoPrices, prices)
            self.assertIs(type(raised(is_table, W, prices, None)), NoPrices, prices)

    def test_is_table_of_other_things(self):
        (one, other), (first, second) = table(W, P)
        for thing in odd_things() + [((one, other),), [(one, other), (first, second)], ((one,), (first, second)),
                                     ([one, other], (first, second)), ((one, other), [first, second]),
                                     ((one, other), (first,)), ((one, other), (first, second), ()),
                                     ((one, other), (first, list(second))), ((one, other), (first, second[:1])),
                                     ((one, other), (first, second + ((0, 1),))),
                                     ((one, other, (0, 1)), (first, second)), ((one, None), (first, second)),
                                     (((4, 6), other), (first, second)), (((-2, -3), other), (first, second)),
                                     (((2, 3, 1), other), (first, second)), ((other, one), (first, second)),
                                     ((one, other), (second, first)), ((one, other), ((False, True), second))]:
            self.assertIs(is_table(W, P, thing), False)
        zeros = ((0, 1), (0, 1))
        self.assertTrue(is_table(W, {}, (zeros, (zeros, zeros))))
        self.assertFalse(is_table(W, {}, (((0, 1), (False, 1)), (zeros, zeros))))
        self.assertFalse(is_table(W, {}, (zeros, (((0, True), (0, 1)), zeros))))

    def test_is_table_with_one_part_changed(self):
        for seed in range(25):
            web = some_web(seed)
            (worths, leads), prices = chosen_prices(seed, web)
            self.assertTrue(is_table(web, prices, (worths, leads)))
            for house, worth in enumerate(worths):
                changed = worths[:house] + (pair(Fraction(*worth) - 1),) + worths[house + 1:]
                self.assertFalse(is_table(web, prices, (changed, leads)))
                row = leads[house]
                for k, lead in enumerate(row):
                    other = row[:k] + (pair(Fraction(*lead) + 1),) + row[k + 1:]
                    self.assertFalse(is_table(web, prices, (worths, leads[:house] + (other,) + leads[house + 1:])))
                # All leads of a house moved alike keep each equation, but not the first lead.
                moved = tuple([pair(Fraction(*lead) + 1) for lead in row])
                self.assertFalse(is_table(web, prices, (worths, leads[:house] + (moved,) + leads[house + 1:])))

    def test_is_table_where_there_is_none(self):
        prices = {(0, 0, 0): (1, 1)}
        self.assertIs(is_table(FREE, prices, None), False)
        self.assertIs(is_table(FREE, prices, (((1, 1),), (((0, 1),),))), False)
        self.assertIs(is_table(FREE, prices, (((1, 2),), (((0, 1),),))), False)


class ToldBillTest(unittest.TestCase):

    def test_by_hand(self):
        self.assertEqual(told_bill(W, P, (1, 2), (1, 0)), (5, 3))
        self.assertEqual(told_bill(W, P, (0, 0), (0, 0)), (0, 1))
        # No play has these ends; the sum of worths and leads is told all the same.
        self.assertEqual(told_bill(W, P, (1, 1), (0, 0)), (1, 1))
        self.assertEqual(told_bill(W, P, (10 ** 6, 10 ** 6), (1, 1)), (10 ** 6, 1))

    def test_the_second_fact(self):
        for seed in range(60):
            web = some_web(seed)
            prices = chosen_prices(seed, web)[1]
            load = tuple([(seed + house) % 4 for house in range(len(web.dealers))])
            moves, ends = random_play(seed, web, load)
            self.assertEqual(told_bill(web, prices, load, ends), bill(web, prices, moves))

    def test_errors_in_order(self):
        for prices in no_prices():
            self.assertIs(type(raised(told_bill, W, prices, None, None)), NoPrices)
        self.assertIs(type(raised(told_bill, FREE, {(0, 0, 0): (1, 1)}, None, None)), NoTable)
        for load in odd_things() + [(1,), (1, -1), [1, 1], (1, True)]:
            self.assertIs(type(raised(told_bill, W, P, load, None)), NoLoad)
        for ends in odd_things() + [(0,), (0, 2), (-1, 0), (0, True), [0, 0], (0, 0, 0), (0, None)]:
            self.assertIs(type(raised(told_bill, W, P, (1, 1), ends)), NoEnds)


class ShareTableTest(unittest.TestCase):

    def test_by_hand(self):
        self.assertEqual(share_table(W, 0), table(W, {(0, 0, 0): (1, 1)}))
        self.assertEqual(share_table(W, 1), table(W, {(1, 0, 0): (1, 1)}))
        self.assertIsNone(share_table(FREE, 0))
        self.assertEqual(share_table(Web(3, FREE.dealers), 2), (((0, 1),), (((0, 1),),)))
        self.assertEqual(share_table(Web(1, (freely((-1, 0)),)), 0), (((1, 1),), (((0, 1),),)))

    def test_of_each_cup(self):
        for web in made_webs() + [some_web(seed) for seed in range(40)]:
            for cup in range(web.cups):
                prices = {step: (1, 1) for step, (door, _) in plain_steps(web).items() if door == -1 - cup}
                self.assertEqual(share_table(web, cup), plain_table(web, prices))

    def test_cups_come_to_all_grains(self):
        for seed in range(40):
            web = fixed_web(seed)
            tables = [share_table(web, cup) for cup in range(web.cups)]
            for house in range(len(web.dealers)):
                self.assertEqual(sum([Fraction(*worths[house]) for worths, _ in tables]), 1)

    def test_no_cup(self):
        for cup in odd_things() + [2, -1, 6]:
            self.assertIs(type(raised(share_table, W, cup)), NoCup)


if __name__ == "__main__":
    unittest.main()
