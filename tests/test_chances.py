"""13.1, 13.2: chances, long shares, mean worths, and chances with unlike mean worths."""

import random
import unittest
from fractions import Fraction

from lastdoors.chances import (are_unlike_chances, chances_of, evenly, home_shares, long_shares, mean_worths,
                               unlike_chances)
from lastdoors.errors import NoChances, NoPrices, NoRounds
from lastdoors.making import by_turns, freely, in_rounds, never_ahead
from lastdoors.rounds import are_rounds, unlike
from lastdoors.tables import share_table, table
from lastdoors.webs import Web, steps
from tests.helpers import (FREE, P, W, chosen_prices, made_webs, odd_things, pair, plain_steps, raised, solve,
                           some_prices, some_web)

UNLIKE = {(0, 0, 0): (1, 1)}


def standings(web):
    """The lists of the steps of each standing of each house."""
    return [[(house, standing, number) for number in range(len(pairs))]
            for house, dealer in enumerate(web.dealers) for standing, pairs in enumerate(dealer)]


def some_chances(seed, web, most=9):
    """Chances that depend on the seed alone, of parts up to so many."""
    source = random.Random(seed)
    chances = {}
    for row in standings(web):
        parts = [source.randint(1, most) for _ in row]
        for step, part in zip(row, parts):
            chances[step] = pair(Fraction(part, sum(parts)))
    return chances


def odd_chances(seed, web):
    """Chances that depend on the seed alone, whose bottoms are great and have little in common."""
    source = random.Random(seed)
    chances = {}
    for row in standings(web):
        left = Fraction(1)
        for step in row[:-1]:
            bottom = source.randint(10 ** 8, 10 ** 9)
            part = Fraction(source.randint(1, bottom // 7), bottom)
            chances[step] = pair(part)
            left -= part
        chances[row[-1]] = pair(left)
    return chances


def as_fractions(told):
    return {step: Fraction(*part) for step, part in told.items()}


def plain_worths(web, shares, prices):
    """The mean worths by solving their equations as they stand."""
    rows = []
    for house in range(len(web.dealers)):
        row, cost = [Fraction(0)] * len(web.dealers), Fraction(0)
        row[house] += 1
        for step, (door, _) in plain_steps(web).items():
            if step[0] == house:
                share = Fraction(*shares[step])
                cost += share * Fraction(*prices.get(step, (0, 1)))
                if door >= 0:
                    row[door] -= share
        rows.append((row, cost))
    return [pair(worth) for worth in solve(rows, len(rows))]


def some_webs():
    return made_webs() + [some_web(seed, 4, 5, 4) for seed in range(30)]


class SharesTest(unittest.TestCase):

    def test_evenly(self):
        self.assertEqual(evenly(W), {step: (1, 1) for step in steps(W)})
        self.assertEqual(evenly(FREE), {(0, 0, 0): (1, 2), (0, 0, 1): (1, 2)})
        for web in some_webs():
            even = evenly(web)
            self.assertEqual(sorted(even), steps(web))
            for row in standings(web):
                self.assertEqual([even[step] for step in row], [(1, len(row))] * len(row))
            self.assertIsNone(raised(long_shares, web, even))

    def check_shares(self, web, chances, shares):
        self.assertEqual(sorted(shares), steps(web))
        for part in shares.values():
            self.assertEqual(pair(Fraction(*part)), part)
        shares, chances = as_fractions(shares), as_fractions(chances)
        doors = plain_steps(web)
        for house, dealer in enumerate(web.dealers):
            self.assertEqual(sum(part for step, part in shares.items() if step[0] == house), 1)
            for standing in range(len(dealer)):
                away = sum(part for step, part in shares.items() if step[:2] == (house, standing))
                to = sum(part for step, part in shares.items() if step[0] == house and doors[step][1] == standing)
                self.assertEqual(away, to)
        for row in standings(web):
            for step in row:
                self.assertEqual(shares[step] * chances[row[0]], shares[row[0]] * chances[step])

    def test_long_shares_by_their_equations(self):
        for seed, web in enumerate(some_webs()):
            for chances in (evenly(web), some_chances(seed, web), odd_chances(seed, web)):
                self.check_shares(web, chances, long_shares(web, chances))

    def test_great_tops_and_bottoms(self):
        great = 10 ** 60 - 1
        web = Web(2, ((((-1, 0), (-1, 1)), ((-2, 0), (0, 1))), in_rounds((-2, -1, 0))))
        chances = some_chances(1, web, 10 ** 30)
        chances[(0, 0, 0)], chances[(0, 0, 1)] = (1, great), (great - 1, great)
        chances[(0, 1, 0)], chances[(0, 1, 1)] = (great - 2, great - 1), (1, great - 1)
        self.check_shares(web, chances, long_shares(web, chances))
        prices = some_prices(3, web)
        self.assertEqual(list(mean_worths(web, chances, prices)),
                         plain_worths(web, long_shares(web, chances), prices))

    def test_the_greatest_web_at_once(self):
        dealer = tuple([tuple(sorted([((k + j) % 10 - 2, (k + j) % 8) for j in range(1, 7)])) for k in range(8)])
        web = Web(2, (dealer,) * 8)
        chances = some_chances(2, web, 10 ** 58)
        self.check_shares(web, chances, long_shares(web, chances))
        self.assertEqual(len(home_shares(web, chances)), 8)

    def test_by_hand(self):
        # From standing 0 half go to standing 1, from which all come back: so it has a third of all steps.
        web = Web(2, ((((-2, 0), (-1, 1)), ((-1, 0),)),))
        self.assertEqual(long_shares(web, evenly(web)), {(0, 0, 0): (1, 3), (0, 0, 1): (1, 3), (0, 1, 0): (1, 3)})
        self.assertEqual(home_shares(web, evenly(web)), [((2, 3), (1, 3))])
        self.assertEqual(long_shares(W, evenly(W)), {step: (1, 2) for step in steps(W)})


class WorthsTest(unittest.TestCase):

    def test_mean_worths_by_their_equations(self):
        for seed, web in enumerate(some_webs()):
            for chances in (evenly(web), some_chances(seed, web), odd_chances(seed, web)):
                prices = some_prices(seed, web)
                told = mean_worths(web, chances, prices)
                self.assertIs(type(told), tuple)
                self.assertEqual(list(told), plain_worths(web, long_shares(web, chances), prices))

    def test_they_are_the_worths_of_a_table(self):
        for seed in range(30):
            web = some_web(seed, 4, 4, 3)
            (worths, _), prices = chosen_prices(seed, web)
            for chances in (evenly(web), some_chances(seed, web)):
                self.assertEqual(mean_worths(web, chances, prices), worths)
        self.assertEqual(mean_worths(W, evenly(W), P), table(W, P)[0])

    def test_home_shares(self):
        for seed, web in enumerate(some_webs()):
            chances = some_chances(seed, web)
            told = home_shares(web, chances)
            self.assertIs(type(told), list)
            self.assertEqual(len(told), len(web.dealers))
            for cup in range(web.cups):
                prices = {step: (1, 1) for step, (door, _) in plain_steps(web).items() if door == -1 - cup}
                self.assertEqual(tuple([row[cup] for row in told]), mean_worths(web, chances, prices))
                found = share_table(web, cup)
                if found is not None:
                    self.assertEqual(tuple([row[cup] for row in told]), found[0])
            for row in told:
                self.assertEqual((type(row), len(row)), (tuple, web.cups))
                self.assertEqual(sum([Fraction(*part) for part in row]), 1)

    def test_errors_in_their_order(self):
        self.assertIsInstance(raised(mean_worths, FREE, {}, {}), NoChances)
        self.assertIsInstance(raised(mean_worths, FREE, None, None), NoChances)
        self.assertIsInstance(raised(mean_worths, FREE, evenly(FREE), None), NoPrices)
        self.assertIsInstance(raised(mean_worths, FREE, evenly(FREE), {(0, 0, 2): (1, 1)}), NoPrices)
        for thing in odd_things():
            for call, given in [(mean_worths, [P]), (long_shares, []), (home_shares, [])]:
                self.assertIsInstance(raised(call, FREE, thing, *given), NoChances)
            self.assertIsInstance(raised(mean_worths, FREE, evenly(FREE), thing), NoPrices)

    def test_what_is_no_chances(self):
        one, two = (0, 0, 0), (0, 0, 1)
        for wrong in [{one: (1, 2)}, {one: (1, 1)}, {one: (1, 1), two: (0, 1)}, {one: (3, 2), two: (-1, 2)},
                      {one: (2, 4), two: (1, 2)}, {one: (1, 2), two: (1, 3)}, {one: (1, 2), two: (2, 3)},
                      {one: (1, 2), two: (1, 2), (0, 0, 2): (1, 2)}, {one: (1, 2), (0, 1, 0): (1, 2)},
                      {one: (1, 2), two: [1, 2]}, {one: (1, 2), two: (True, 2)}, {one: (1, 2), two: (1, 2, 1)},
                      {one: (1, 2), two: None}, {one: (-1, -2), two: (1, 2)}, {one: 1, two: 1}, {one: (1, 0), two: (1, 2)},
                      {}, None, [], [(one, (1, 2)), (two, (1, 2))], ((1, 2), (1, 2))]:
            for call in (long_shares, home_shares):
                self.assertIsInstance(raised(call, FREE, wrong), NoChances, wrong)
            self.assertIsInstance(raised(mean_worths, FREE, wrong, {}), NoChances)
            self.assertIs(are_unlike_chances(FREE, UNLIKE, (wrong, evenly(FREE))), False)
        self.assertIsNone(raised(long_shares, FREE, {one: (10 ** 60 - 1, 10 ** 60), two: (1, 10 ** 60)}))
        # At each standing they are to come to (1, 1), not all together.
        two_rows = Web(2, ((((-2, 1), (-1, 1)), ((-2, 0), (-1, 0))),))
        wrong = {(0, 0, 0): (1, 3), (0, 0, 1): (1, 3), (0, 1, 0): (2, 3), (0, 1, 1): (2, 3)}
        self.assertIsInstance(raised(long_shares, two_rows, wrong), NoChances)


class UnlikeTest(unittest.TestCase):

    def test_chances_of(self):
        self.assertEqual(chances_of(FREE, {(0, 0, 0): 2, (0, 0, 1): 4}), {(0, 0, 0): (1, 3), (0, 0, 1): (2, 3)})
        for seed, web in enumerate(some_webs()):
            prices = some_prices(seed, web)
            found = unlike(web, prices)
            if found is None:
                continue
            for rounds in found:
                self.assertIs(are_rounds(web, rounds), True)
                chances = chances_of(web, rounds)
                self.assertEqual(sorted(chances), steps(web))
                for row in standings(web):
                    whole = sum([rounds[step] for step in row])
                    for step in row:
                        self.assertEqual(chances[step], pair(Fraction(rounds[step], whole)))
                # In the long run steps are as often as in the rounds.
                shares = long_shares(web, chances)
                for house in range(len(web.dealers)):
                    whole = sum([many for step, many in rounds.items() if step[0] == house])
                    for step, many in rounds.items():
                        if step[0] == house:
                            self.assertEqual(shares[step], pair(Fraction(many, whole)))

    def test_no_rounds(self):
        one, two = (0, 0, 0), (0, 0, 1)
        for wrong in [{one: 1}, {one: 0, two: 1}, {one: -1, two: 1}, {one: True, two: 1}, {one: 1, two: (1, 1)},
                      {one: 1, two: 1, (0, 0, 2): 1}, {one: 1, (0, 1, 0): 1}, {}, None] + odd_things():
            self.assertIsInstance(raised(chances_of, FREE, wrong), NoRounds, wrong)
        turns = {(0, 0, 0): 1, (0, 1, 0): 2, (1, 0, 0): 1, (1, 1, 0): 1}
        self.assertIsInstance(raised(chances_of, W, turns), NoRounds)
        turns[(0, 1, 0)] = 1
        self.assertEqual(chances_of(W, turns), evenly(W))
        self.assertIsInstance(raised(chances_of, W, {step: 0 for step in steps(W)}), NoRounds)
        self.assertEqual(chances_of(FREE, {one: 10 ** 60, two: 10 ** 60}), evenly(FREE))

    def test_none_just_where_there_is_a_table(self):
        none = 0
        for seed in range(60):
            web = some_web(seed, 4, 4, 3)
            for prices in (some_prices(seed, web), chosen_prices(seed, web)[1], {}):
                found = unlike_chances(web, prices)
                if table(web, prices) is not None:
                    none += 1
                    self.assertIsNone(found)
                    pair_of_chances = (some_chances(seed, web), some_chances(seed + 1, web))
                    self.assertIs(are_unlike_chances(web, prices, pair_of_chances), False)
                else:
                    self.assertIs(are_unlike_chances(web, prices, found), True)
                    self.assertNotEqual(mean_worths(web, found[0], prices), mean_worths(web, found[1], prices))
        self.assertGreater(none, 100)
        self.assertIsNone(unlike_chances(W, P))

    def test_with_one_thing_changed(self):
        for seed in range(30):
            web = some_web(seed, 2, 3, 3)
            prices = some_prices(seed, web)
            told = unlike_chances(web, prices)
            if told is None:
                continue
            one, other = told
            judged = [(one, one), (other, other), [one, other], (one,), (one, other, one), one, (one, None), None,
                      (one, {}), ({}, other)]
            for changed in judged:
                self.assertIs(are_unlike_chances(web, prices, changed), False)
            self.assertIs(are_unlike_chances(web, prices, (other, one)), True)
            for step in one:
                for part in [(0, 1), (True, 1), (-1, 2), None, (2, 2), one[step] + (1,), list(one[step])]:
                    self.assertIs(are_unlike_chances(web, prices, ({**one, step: part}, other)), False)
                    self.assertIs(are_unlike_chances(web, prices, (one, {**other, step: part})), False)
                less = {key: part for key, part in one.items() if key != step}
                self.assertIs(are_unlike_chances(web, prices, (less, other)), False)
                moved = Fraction(*one[step]) * Fraction(9, 10)
                self.assertIs(are_unlike_chances(web, prices, ({**one, step: pair(moved)}, other)), False)

    def test_any_chances_by_their_mean_worths(self):
        for seed in range(40):
            web = some_web(seed, 3, 3, 3)
            prices = some_prices(seed, web)
            told = (some_chances(seed, web), some_chances(seed + 100, web))
            shares = [long_shares(web, one) for one in told]
            want = plain_worths(web, shares[0], prices) != plain_worths(web, shares[1], prices)
            self.assertIs(are_unlike_chances(web, prices, told), want)

    def test_no_prices_and_other_things(self):
        for thing in odd_things():
            self.assertIs(are_unlike_chances(FREE, UNLIKE, thing), False)
            self.assertIs(are_unlike_chances(FREE, UNLIKE, (thing, evenly(FREE))), False)
            self.assertIsInstance(raised(are_unlike_chances, FREE, thing, None), NoPrices)
            self.assertIsInstance(raised(unlike_chances, FREE, thing), NoPrices)

    def test_made_dealers(self):
        web = Web(2, (never_ahead(-1, -2, 2), freely((-2, -1, 0)), by_turns((-1, -2, 2, 0))))
        for chances in (evenly(web), some_chances(1, web)):
            # The first house never takes one cup much oftener than the other one, whatever the chances.
            self.assertEqual(home_shares(web, chances)[0], ((1, 2), (1, 2)))
        self.assertEqual(home_shares(web, evenly(web))[1:], [((1, 2), (1, 2)), ((1, 2), (1, 2))])


if __name__ == "__main__":
    unittest.main()
