"""3.3: rounds, and unlike ones."""

import unittest
from fractions import Fraction

from lastdoors.errors import NoPrices
from lastdoors.rounds import are_rounds, are_unlike, unlike
from lastdoors.tables import table
from lastdoors.webs import Web
from tests.helpers import (FREE, P, W, chosen_prices, fixed_web, made_webs, odd_things, plain_steps, raised,
                           some_prices, some_web)
from tests.test_tables import no_prices

DEAR = {(0, 0, 0): (1, 1)}


def plain_are_rounds(web, thing):
    balance = {}
    for step, (_, after) in plain_steps(web).items():
        house, standing, _ = step
        balance[house, standing] = balance.get((house, standing), 0) - thing[step]
        balance[house, after] = balance.get((house, after), 0) + thing[step]
    return not any(balance.values())


def plain_load(web, thing):
    load = [0] * len(web.dealers)
    for step, (door, _) in plain_steps(web).items():
        load[step[0]] += thing[step]
        if door >= 0:
            load[door] -= thing[step]
    return load


def plain_bill(prices, thing):
    return sum([Fraction(*price) * thing[step] for step, price in prices.items()])


class UnlikeTest(unittest.TestCase):

    def test_by_hand(self):
        one, other = unlike(FREE, DEAR)
        self.assertEqual(sum(one.values()), sum(other.values()))
        self.assertNotEqual(one[(0, 0, 0)], other[(0, 0, 0)])
        self.assertTrue(min(list(one.values()) + list(other.values())) >= 1)
        self.assertIsNone(unlike(W, P))
        self.assertIsNone(unlike(FREE, {}))

    def test_each_word_of_it(self):
        found = 0
        for seed in range(120):
            web = some_web(seed)
            prices = some_prices(seed, web)
            rounds = unlike(web, prices)
            self.assertEqual(rounds is None, table(web, prices) is not None)
            if rounds is None:
                continue
            found += 1
            self.assertIs(type(rounds), tuple)
            one, other = rounds
            for part in rounds:
                self.assertEqual(sorted(part), sorted(plain_steps(web)))
                self.assertTrue(all(type(many) is int and many >= 1 for many in part.values()))
                self.assertTrue(plain_are_rounds(web, part))
                self.assertIs(are_rounds(web, part), True)
            self.assertEqual(plain_load(web, one), plain_load(web, other))
            self.assertNotEqual(plain_bill(prices, one), plain_bill(prices, other))
            self.assertIs(are_unlike(web, prices, rounds), True)
            self.assertIs(are_unlike(web, prices, (other, one)), True)
        self.assertGreater(found, 60)

    def test_none_of_tables(self):
        for seed in range(30):
            web = some_web(seed)
            self.assertIsNone(unlike(web, chosen_prices(seed, web)[1]))
            fixed = fixed_web(seed)
            self.assertIsNone(unlike(fixed, some_prices(seed, fixed)))

    def test_a_price_at_its_bounds(self):
        web = Web(2, (((((-2, 0), (-1, 0))),),))
        prices = {(0, 0, 0): (10 ** 9, 1), (0, 0, 1): (10 ** 9 - 1, 1)}
        self.assertTrue(are_unlike(web, prices, unlike(web, prices)))
        self.assertFalse(are_unlike(web, {}, unlike(web, prices)))

    def test_returned_dicts_are_new(self):
        one, other = unlike(FREE, DEAR)
        kept = dict(one), dict(other)
        one.clear()
        other[(0, 0, 0)] = -1
        self.assertEqual(unlike(FREE, DEAR), kept)
        self.assertIsNot(*unlike(FREE, DEAR))

    def test_no_prices(self):
        for prices in no_prices():
            self.assertIs(type(raised(unlike, W, prices)), NoPrices)
            self.assertIs(type(raised(are_unlike, W, prices, None)), NoPrices)


class AreTest(unittest.TestCase):

    def test_are_rounds(self):
        ones = {step: 1 for step in plain_steps(W)}
        self.assertIs(are_rounds(W, ones), True)
        self.assertIs(are_rounds(W, {step: 0 for step in ones}), True)
        self.assertIs(are_rounds(W, {step: 5 * (1 - step[0]) for step in ones}), True)
        self.assertIs(are_rounds(FREE, {(0, 0, 0): 7, (0, 0, 1): 0}), True)

    def test_with_one_thing_changed(self):
        for web in made_webs():
            ones = unlike(web, {(0, 0, 0): (1, 1)})
            ones = ones[0] if ones else {step: 1 for step in plain_steps(web)}
            self.assertEqual(are_rounds(web, ones), plain_are_rounds(web, ones))
            for step, (_, after) in plain_steps(web).items():
                changed = dict(ones)
                changed[step] += 1
                self.assertEqual(are_rounds(web, changed), after == step[1])
                for many in (-1, True, None, "1", (1,)):
                    self.assertIs(are_rounds(web, {**ones, step: many}), False)
                del changed[step]
                self.assertIs(are_rounds(web, changed), False)
            self.assertIs(are_rounds(web, {**ones, (9, 0, 0): 1}), False)
            self.assertIs(are_rounds(web, {**ones, None: 0}), False)
            self.assertIs(are_rounds(web, sorted(ones.items())), False)

    def test_are_rounds_of_other_things(self):
        for thing in odd_things() + [{}, {(0, 0): 1, (0, 1): 1, (1, 0): 1, (1, 1): 1}]:
            self.assertIs(are_rounds(W, thing), False)

    def test_below_nothing(self):
        loop = Web(1, ((((-1, 0),),),))
        self.assertIs(are_rounds(loop, {(0, 0, 0): 0}), True)
        self.assertIs(are_rounds(loop, {(0, 0, 0): -1}), False)
        self.assertIs(are_rounds(loop, {(0, 0, 0): False}), False)

    def test_are_unlike_of_other_things(self):
        one, other = unlike(FREE, DEAR)
        self.assertIs(are_unlike(FREE, DEAR, (one, other)), True)
        for thing in odd_things() + [(one,), (one, other, one), [one, other], (one, one), (one, None), (None, other),
                                     ({}, {}), (one, {**other, (0, 0, 0): True}), {0: one, 1: other}]:
            self.assertIs(are_unlike(FREE, DEAR, thing), False)

    def test_are_unlike_each_condition(self):
        def rounds(one, other):
            return {(0, 0, 0): one, (0, 0, 1): other}
        self.assertIs(are_unlike(FREE, DEAR, (rounds(1, 2), rounds(2, 1))), True)
        self.assertIs(are_unlike(FREE, DEAR, (rounds(0, 3), rounds(2, 1))), False)
        self.assertIs(are_unlike(FREE, DEAR, (rounds(1, 2), rounds(2, 2))), False)
        self.assertIs(are_unlike(FREE, DEAR, (rounds(1, 2), rounds(1, 2))), False)
        self.assertIs(are_unlike(FREE, {}, (rounds(1, 2), rounds(2, 1))), False)
        both = {(0, 0, 0): (1, 2), (0, 0, 1): (1, 2)}
        self.assertIs(are_unlike(FREE, both, (rounds(1, 2), rounds(2, 1))), False)


if __name__ == "__main__":
    unittest.main()
