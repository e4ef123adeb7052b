"""7.1 and 7.2: which ends fit which loads, and witnesses where they do not."""

import random
import unittest
from fractions import Fraction
from itertools import product

from lastdoors.errors import NoEnds, NoLoad, NoNumber, TooMany
from lastdoors.fitting import (are_numbers, fits, fitting_ends, fitting_loads, is_witness, numbers_for, witness)
from lastdoors.forests import all_ends, can_end
from lastdoors.making import by_turns, freely, in_rounds, never_ahead
from lastdoors.settling import settled
from lastdoors.small import ends_of
from lastdoors.webs import Web
from tests.helpers import (FREE, W, chain, fixed_web, made_webs, odd_things, pair, plain_steps, raised,
                           random_play, some_web)
from tests.test_forests import NO_ENDS
from tests.test_small import NO_LOADS

BOTH = Web(2, (in_rounds((-2, -1, 1)), never_ahead(0, -1, 3)))


def small_webs():
    return made_webs() + [BOTH, Web(1, (by_turns((-1,) * 4), by_turns((-1,) * 6)))] + \
        [fixed_web(seed, 3, 4) for seed in range(25)] + [some_web(seed, 3, 4, 2) for seed in range(25)]


def ends_and_loads(seed, web):
    """Ends and loads of a web by chance."""
    source = random.Random(seed)
    for _ in range(12):
        yield (tuple([source.randint(0, source.choice([1, 5, 10 ** 6])) for _ in web.dealers]),
               tuple([source.randrange(len(dealer)) for dealer in web.dealers]))


def plainly_numbers(web, load, ends, told):
    """Whether numbers of all steps are as the point tells, word by word."""
    steps = plain_steps(web)
    if sorted(told) != sorted(steps):
        return False
    for house, dealer in enumerate(web.dealers):
        for standing in range(len(dealer)):
            there = sum([told[step] for step, (_, after) in steps.items() if (step[0], after) == (house, standing)])
            away = sum([told[step] for step in steps if step[:2] == (house, standing)])
            wanted = 0
            if ends[house] != 0:
                wanted = {ends[house]: 1, 0: -1}.get(standing, 0)
            if there - away != wanted:
                return False
        out = sum([told[step] for step in steps if step[0] == house])
        came = sum([told[step] for step, (door, _) in steps.items() if door == house])
        if out - came != load[house]:
            return False
    return True


def plainly_witness(web, load, ends, told):
    """Whether worths and leads are as the point tells, word by word."""
    worths = [Fraction(*worth) for worth in told[0]]
    leads = [[Fraction(*lead) for lead in row] for row in told[1]]
    if not all([0 <= one < 1 for one in worths + [lead for row in leads for lead in row]]):
        return False
    if not all([row[0] == 0 for row in leads]):
        return False
    for (house, standing, _), (door, after) in plain_steps(web).items():
        worth = worths[house] - (worths[door] if door >= 0 else 0)
        if (worth + leads[house][after] - leads[house][standing]).denominator != 1:
            return False
    total = sum([worth * many for worth, many in zip(worths, load)])
    return (total + sum([row[end] for row, end in zip(leads, ends)])).denominator != 1


class FitsTest(unittest.TestCase):

    def check(self, web, load, ends):
        fit = fits(web, load, ends)
        self.assertIs(type(fit), bool)
        numbers, told = numbers_for(web, load, ends), witness(web, load, ends)
        self.assertIs(numbers is not None, fit)
        self.assertIs(told is None, fit)
        if fit:
            self.assertIs(type(numbers), dict)
            self.assertTrue(all(type(many) is int for many in numbers.values()))
            self.assertTrue(plainly_numbers(web, load, ends, numbers))
            self.assertIs(are_numbers(web, load, ends, numbers), True)
        else:
            worths, leads = told
            for fraction in (*worths, *[lead for row in leads for lead in row]):
                self.assertEqual(fraction, pair(Fraction(*fraction)))
            self.assertTrue(plainly_witness(web, load, ends, told))
            self.assertIs(is_witness(web, load, ends, told), True)
        return fit

    def test_by_hand(self):
        self.assertIs(fits(W, (1, 1), (1, 1)), True)
        self.assertIs(fits(W, (1, 1), (0, 1)), False)
        # No play has these ends, but they fit all the same.
        self.assertIs(fits(W, (0, 0), (0, 0)), True)
        self.assertIs(fits(W, (1, 1), (0, 0)), True)
        self.assertEqual(numbers_for(W, (1, 0), (1, 0)), {(0, 0, 0): 1, (0, 1, 0): 0, (1, 0, 0): 0, (1, 1, 0): 0})
        self.assertIsNone(numbers_for(W, (1, 1), (0, 1)))
        self.assertIsNone(witness(W, (1, 1), (1, 1)))
        self.assertIn(witness(W, (1, 1), (0, 1)), [
            (((2, 3), (1, 3)), (((0, 1), (1, 3)), ((0, 1), (2, 3)))),
            (((1, 3), (2, 3)), (((0, 1), (2, 3)), ((0, 1), (1, 3)))),
        ])
        self.assertIs(fits(FREE, (7,), (0,)), True)
        self.assertIs(fits(BOTH, (1, 1), (0, 0)), fits(BOTH, (10 ** 6 + 1, 10 ** 6 + 1), (0, 0)))

    def test_just_one_of_numbers_and_a_witness(self):
        fit = [0, 0]
        for seed, web in enumerate(small_webs()):
            for load, ends in ends_and_loads(seed, web):
                fit[self.check(web, load, ends)] += 1
        self.assertGreater(min(fit), 100)

    def test_large_webs(self):
        fit = [0, 0]
        for seed in range(25):
            for web in (some_web(seed, 8, 8, 6), fixed_web(seed, 8, 8), chain(8, 1 + seed % 7, 7 - seed % 7)):
                load, ends = next(ends_and_loads(seed, web))
                fit[self.check(web, load, ends)] += 1
        self.check(chain(8, 3, 5), (10 ** 60,) * 8, (0,) * 8)
        self.assertGreater(min(fit), 20)

    def test_ends_of_plays_fit(self):
        for seed, web in enumerate(small_webs()):
            for many in range(3):
                load = tuple([(seed + house + many) % 4 for house in range(len(web.dealers))])
                ends = random_play(seed, web, load)[1]
                self.assertIs(self.check(web, load, ends), True)

    def test_numbers_with_one_thing_changed(self):
        for seed, web in enumerate(small_webs()[:20]):
            load = tuple([1 + (seed + house) % 4 for house in range(len(web.dealers))])
            ends = random_play(seed, web, load)[1]
            told = numbers_for(web, load, ends)
            for step in told:
                less = {key: many for key, many in told.items() if key != step}
                for other in [{**told, step: told[step] + 1}, {**told, step: told[step] - 1}]:
                    self.assertIs(are_numbers(web, load, ends, other), plainly_numbers(web, load, ends, other))
                for other in [less, {**told, step: True}, {**told, step: (told[step], 1)}, {**told, step: None},
                              {**told, (9, 0, 0): 0}, {**less, (9, 0, 0): told[step]}, {**told, step: [told[step]]}]:
                    self.assertIs(are_numbers(web, load, ends, other), False)
            self.assertIs(are_numbers(web, load, ends, list(told.items())), False)
            self.assertIs(are_numbers(web, load, ends, {step: many + 1 for step, many in told.items()}),
                          plainly_numbers(web, load, ends, {step: many + 1 for step, many in told.items()}))
            more = (load[0] + 1,) + load[1:]
            self.assertIs(are_numbers(web, more, ends, told), False)

    def test_numbers_of_flags(self):
        told = {(0, 0, 0): 1, (0, 1, 0): 0, (1, 0, 0): 0, (1, 1, 0): 0}
        self.assertIs(are_numbers(W, (1, 0), (1, 0), told), True)
        self.assertIs(are_numbers(W, (1, 0), (1, 0), {**told, (0, 0, 0): True}), False)
        self.assertIs(are_numbers(W, (1, 0), (1, 0), {**told, (1, 1, 0): False}), False)
        # A number more at each step keeps the standings, but not the load.
        self.assertIs(are_numbers(W, (1, 0), (1, 0), {step: many + 1 for step, many in told.items()}), False)
        self.assertIs(are_numbers(W, (2, 1), (1, 0), {step: many + 1 for step, many in told.items()}), True)

    def test_witness_with_one_thing_changed(self):
        checked = 0
        for seed, web in enumerate(small_webs()[:30]):
            for load, ends in ends_and_loads(seed, web):
                told = witness(web, load, ends)
                if told is None:
                    continue
                checked += 1
                worths, leads = told
                for house, (top, bottom) in enumerate(worths):
                    for other in [(top + bottom, bottom), (top - bottom, bottom), (2 * top, 2 * bottom),
                                  (top, -bottom), [top, bottom], (True, bottom), (top, bottom, 1), top, None]:
                        changed = worths[:house] + (other,) + worths[house + 1:]
                        self.assertIs(is_witness(web, load, ends, (changed, leads)), False)
                    changed = worths[:house] + (pair(Fraction(1, 2) * Fraction(top, bottom)),) + worths[house + 1:]
                    self.assertIs(is_witness(web, load, ends, (changed, leads)),
                                  plainly_witness(web, load, ends, (changed, leads)))
                    row = leads[house]
                    for k, (top, bottom) in enumerate(row):
                        for other in [(top + bottom, bottom), (top - bottom, bottom), (3 * top, 3 * bottom), None]:
                            changed = leads[:house] + (row[:k] + (other,) + row[k + 1:],) + leads[house + 1:]
                            self.assertIs(is_witness(web, load, ends, (worths, changed)), False)
                    moved = tuple([pair((Fraction(*lead) + Fraction(1, 2)) % 1) for lead in row])
                    changed = leads[:house] + (moved,) + leads[house + 1:]
                    self.assertIs(is_witness(web, load, ends, (worths, changed)), False)
                for other in [list(told), (list(worths), leads), (worths, list(leads)), (worths,), (worths, leads, 0),
                              (leads, worths), (worths[:-1], leads), (worths, leads[:-1]), (worths + worths, leads),
                              ((((0, 1),) * len(worths)), tuple([((0, 1),) * len(row) for row in leads]))]:
                    self.assertIs(is_witness(web, load, ends, other), False)
        self.assertGreater(checked, 60)

    def test_no_witness_where_ends_fit(self):
        told = witness(W, (1, 1), (0, 1))
        self.assertIs(is_witness(W, (1, 1), (0, 1), told), True)
        self.assertIs(is_witness(W, (1, 1), (1, 1), told), False)
        self.assertIs(is_witness(W, (1, 2), (1, 1), told), True)

    def test_other_things(self):
        for thing in odd_things():
            self.assertIs(are_numbers(W, (1, 1), (1, 1), thing), False)
            self.assertIs(are_numbers(W, (1, 1), (0, 1), thing), False)
            self.assertIs(is_witness(W, (1, 1), (0, 1), thing), False)

    def test_errors_in_order(self):
        for call, more in [(fits, []), (numbers_for, []), (are_numbers, [None]), (witness, []), (is_witness, [None])]:
            for load in odd_things() + NO_LOADS:
                self.assertIs(type(raised(call, W, load, None, *more)), NoLoad)
            for ends in odd_things() + NO_ENDS:
                self.assertIs(type(raised(call, W, (1, 1), ends, *more)), NoEnds)


class FittingTest(unittest.TestCase):

    def test_by_hand(self):
        self.assertEqual(fitting_ends(W, (1, 1)), [(1, 1)])
        self.assertEqual(fitting_ends(W, (2, 1)), [(1, 0)])
        self.assertEqual(fitting_loads(W, (1, 1), 2), [(1, 1), (2, 2)])
        self.assertEqual(fitting_loads(W, (0, 0), 2), [(1, 1), (2, 2)])
        self.assertEqual(fitting_loads(W, (1, 1), 1), [(1, 1)])
        self.assertEqual(fitting_loads(W, (1, 0), 1), [])
        self.assertEqual(fitting_loads(FREE, (0,), 6), [(1,), (2,), (3,), (4,), (5,), (6,)])

    def test_against_all_ends(self):
        for seed, web in enumerate(small_webs()):
            for load, _ in list(ends_and_loads(seed, web))[:4] + [((0,) * len(web.dealers), None)]:
                found = [ends for ends in product(*[range(len(dealer)) for dealer in web.dealers])
                         if can_end(web, ends) and fits(web, load, ends)]
                self.assertEqual(fitting_ends(web, load), found)

    def test_of_webs_without_choices(self):
        for seed in range(40):
            web = fixed_web(seed, 5, 4)
            load = tuple([1 + (seed * house) % 9 for house in range(len(web.dealers))])
            self.assertEqual(fitting_ends(web, load), [settled(web, load)[0]])

    def test_the_eighth_fact(self):
        for web in [W, FREE, Web(1, (freely((-1, 0)), in_rounds((-1, 0))))] + \
                [some_web(seed, 2, 4, 2) for seed in range(20)]:
            for many in (6, 7, 8):
                load = (many,) * len(web.dealers)
                self.assertEqual(sorted({ends for ends, _ in ends_of(web, load)}), fitting_ends(web, load))

    def test_loads_against_fits(self):
        for seed, web in enumerate(small_webs()):
            ends = next(ends_and_loads(seed, web))[1]
            most = 1 + seed % (6 if len(web.dealers) < 3 else 4)
            found = [load for load in product(range(1, most + 1), repeat=len(web.dealers)) if fits(web, load, ends)]
            self.assertEqual(fitting_loads(web, ends, most), found)

    def test_so_many_ends(self):
        def web_of(*numbers):
            return Web(1, tuple([by_turns((-1,) * many) for many in numbers]))
        self.assertEqual(fitting_ends(web_of(8, 5, 5, 5, 5, 4), (9,) * 6), [(1, 4, 4, 4, 4, 1)])
        for web in [web_of(8, 8, 8, 8, 5), web_of(3, 7, 7, 8, 3, 8), web_of(*(8,) * 8), chain(8, 7, 1)]:
            error = raised(fitting_ends, web, (1,) * len(web.dealers))
            self.assertEqual((type(error), error.most), (TooMany, 20000))
            self.assertIs(type(raised(fitting_ends, web, (1,))), NoLoad)
        every = Web(6, (tuple([tuple([(door, (k + 1) % 5) for door in range(-6, 0)]) for k in range(5)]),) * 6)
        self.assertEqual(fitting_ends(every, (4,) * 6), [(4,) * 6])
        loose = Web(1, ((((-1, 0), (-1, 1)), ((-1, 0),)),) * 8)
        self.assertEqual(len(fitting_ends(loose, (0,) * 8)), 256)

    def test_so_many_loads(self):
        web = Web(1, (by_turns((-1,)),) * 8)
        self.assertEqual(len(fitting_loads(web, (0,) * 8, 3)), 6561)
        five = Web(1, (by_turns((-1,)),) * 5)
        self.assertEqual(len(fitting_loads(five, (0,) * 5, 6)), 7776)
        for houses, most in [(8, 4), (8, 6), (7, 5), (6, 6)]:
            error = raised(fitting_loads, Web(1, (by_turns((-1,)),) * houses), (0,) * houses, most)
            self.assertEqual((type(error), error.most), (TooMany, 20000))
        self.assertEqual(len(fitting_loads(Web(1, (by_turns((-1,)),) * 7), (0,) * 7, 4)), 16384)
        # Wrong ends and numbers come first.
        self.assertIs(type(raised(fitting_loads, web, (0,) * 9, 6)), NoEnds)
        self.assertIs(type(raised(fitting_loads, web, (0,) * 8, 7)), NoNumber)

    def test_errors_in_order(self):
        for load in odd_things() + NO_LOADS:
            self.assertIs(type(raised(fitting_ends, W, load)), NoLoad)
        for ends in odd_things() + NO_ENDS:
            self.assertIs(type(raised(fitting_loads, W, ends, None)), NoEnds)
        for most in odd_things() + [0, 7, -1, True, (1,)]:
            self.assertIs(type(raised(fitting_loads, W, (0, 0), most)), NoNumber)

    def test_lists_are_new(self):
        fitting_ends(W, (1, 1)).clear()
        fitting_loads(W, (1, 1), 2).clear()
        self.assertEqual((len(fitting_ends(W, (1, 1))), len(fitting_loads(W, (1, 1), 2))), (1, 2))


if __name__ == "__main__":
    unittest.main()
