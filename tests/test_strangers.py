"""14.1: claims of strangers, and the first thing that they tell wrong."""

import unittest
from itertools import product

from lastdoors.errors import NoNumber, NoPrices, NoTable, TooMany
from lastdoors.forests import all_ends, can_end
from lastdoors.heaviest import spread
from lastdoors.making import by_turns, freely
from lastdoors.numbering import forest_at, forest_number, many_forests
from lastdoors.strangers import refuted, refuted_bill
from lastdoors.tables import told_bill
from lastdoors.webs import Web, next_of
from tests.helpers import FREE, P, W, chosen_prices, odd_things, raised, some_web


def every_ends(web):
    return list(product(*[range(len(dealer)) for dealer in web.dealers]))


def right_for(web):
    return lambda ends: can_end(web, ends)


def right_bill(web, prices):
    return lambda load, ends: told_bill(web, prices, load, ends)


class RefutedTest(unittest.TestCase):

    def test_right_claims(self):
        for seed in range(40):
            web = some_web(seed)
            asked = []

            def claim(ends):
                asked.append(ends)
                return can_end(web, ends)

            self.assertIsNone(refuted(claim, web))
            self.assertEqual(sorted(set(asked)), every_ends(web))

    def test_wrong_at_one_place(self):
        for seed in range(40):
            web = some_web(seed, 3, 3, 3)
            for wrong in every_ends(web):
                self.assertEqual(refuted(lambda ends: can_end(web, ends) != (ends == wrong), web), wrong)

    def test_the_first_of_many(self):
        self.assertEqual(refuted(lambda ends: True, W), (0, 0))
        self.assertEqual(refuted(lambda ends: False, W), (0, 1))
        self.assertEqual(refuted(lambda ends: ends != (0, 0) and ends != (1, 1), W), (1, 1))
        for seed in range(40):
            web = some_web(seed, 4, 4, 2)
            wrong = [ends for ends in every_ends(web) if (sum(ends) % 2 == 0) != can_end(web, ends)]
            self.assertEqual(refuted(lambda ends: sum(ends) % 2 == 0, web), wrong[0] if wrong else None)

    def test_what_is_no_flag(self):
        self.assertEqual(refuted(lambda ends: 1 if can_end(W, ends) else 0, W), (0, 0))
        self.assertEqual(refuted(lambda ends: 1 if can_end(W, ends) else False, W), (0, 1))
        last = every_ends(W)[-1]
        for thing in odd_things():
            right = thing is can_end(W, last)
            found = refuted(lambda ends: thing if ends == last else can_end(W, ends), W)
            self.assertEqual(found, None if right else last)

    def test_errors_of_the_claim_go_on(self):
        def failing(ends):
            if ends == (1, 0):
                raise ArithmeticError("on")
            return can_end(W, ends)

        self.assertIsInstance(raised(refuted, failing, W), ArithmeticError)
        self.assertIsInstance(raised(refuted, lambda ends: {}[ends], W), KeyError)
        # What is told wrong ahead of the error is told.
        self.assertEqual(refuted(lambda ends: True if ends == (0, 0) else failing(ends), W), (0, 0))

    def test_too_many(self):
        just = Web(1, (by_turns((-1,) * 5),) * 4 + (by_turns((-1,) * 8),) + (by_turns((-1,) * 4),))
        more = Web(1, (by_turns((-1,) * 3),) * 2 + (by_turns((-1,) * 7),) * 3 + (by_turns((-1,) * 7),))
        self.assertEqual((len(every_ends(just)), len(every_ends(more))), (20000, 21609))
        self.assertIsNone(refuted(lambda ends: True, just))
        self.assertEqual(refuted(lambda ends: ends != (4, 4, 4, 4, 7, 3), just), (4, 4, 4, 4, 7, 3))
        error = raised(refuted, lambda ends: {}[ends], more)
        self.assertEqual((type(error), error.most), (TooMany, 20000))


class RefutedBillTest(unittest.TestCase):

    def test_right_claims(self):
        for seed in range(25):
            web = some_web(seed, 3, 3, 2)
            prices = chosen_prices(seed, web)[1]
            asked = []

            def claim(load, ends):
                asked.append((load, ends))
                return told_bill(web, prices, load, ends)

            self.assertIsNone(refuted_bill(claim, web, prices, 2))
            loads = product(*[(1, 2)] * len(web.dealers))
            self.assertEqual(sorted(set(asked)), [(load, ends) for load in loads for ends in all_ends(web)])

    def test_wrong_at_one_place(self):
        right = right_bill(W, P)
        for most in (1, 2, 3):
            for load in product(range(1, most + 1), repeat=2):
                for ends in all_ends(W):
                    def claim(some, last):
                        return (9, 1) if (some, last) == (load, ends) else right(some, last)
                    self.assertEqual(refuted_bill(claim, W, P, most), (load, ends))

    def test_wrong_only_for_ends_that_cannot_come(self):
        right = right_bill(W, P)
        self.assertIsNone(refuted_bill(lambda load, ends: None if ends == (0, 0) else right(load, ends), W, P, 3))

    def test_the_first_of_many(self):
        right = right_bill(W, P)
        self.assertEqual(refuted_bill(lambda load, ends: (0, 1), W, P, 3), ((1, 1), (0, 1)))
        self.assertEqual(refuted_bill(lambda load, ends: right(load, ends) if load[0] < 2 and ends[0] == 0 else None,
                                      W, P, 3), ((1, 1), (1, 0)))
        self.assertEqual(refuted_bill(lambda load, ends: right(load, ends) if load < (2, 3) else None, W, P, 3),
                         ((2, 3), (0, 1)))
        for seed in range(25):
            web = some_web(seed, 3, 3, 2)
            prices = chosen_prices(seed, web)[1]
            guess = right_bill(web, prices)((1,) * len(web.dealers), all_ends(web)[0])
            pairs = [(load, ends) for load in product(*[(1, 2)] * len(web.dealers)) for ends in all_ends(web)]
            wrong = [one for one in pairs if told_bill(web, prices, *one) != guess]
            self.assertEqual(refuted_bill(lambda load, ends: guess, web, prices, 2), wrong[0] if wrong else None)

    def test_what_is_no_fraction(self):
        price = {(0, 0, 0): (1, 1), (0, 1, 0): (1, 1), (1, 0, 0): (0, 1)}
        web = Web(1, (by_turns((-1, -1)),))
        prices = {(0, 0, 0): (1, 1), (0, 1, 0): (1, 1)}
        self.assertIsNone(refuted_bill(lambda load, ends: (load[0], 1), web, prices, 3))
        self.assertEqual(refuted_bill(lambda load, ends: (True, 1) if load == (1,) else (load[0], 1), web, prices, 3),
                         ((1,), (0,)))
        self.assertEqual(refuted_bill(lambda load, ends: (load[0], True), web, prices, 3), ((1,), (0,)))
        for wrong in [(4, 2), [2, 1], 2, (2, 1, 1), (-2, -1), "2/1", (2,), None, True]:
            self.assertEqual(refuted_bill(lambda load, ends: wrong if load == (2,) else (load[0], 1), web, prices, 3),
                             ((2,), (0,)), wrong)
        for thing in odd_things():
            self.assertEqual(refuted_bill(lambda load, ends: thing, web, prices, 1), ((1,), (0,)))
        self.assertIsInstance(raised(refuted_bill, None, web, price, 1), NoPrices)

    def test_errors_of_the_claim_go_on(self):
        right = right_bill(W, P)

        def failing(load, ends):
            if load == (2, 1):
                raise ArithmeticError("on")
            return right(load, ends)

        self.assertIsNone(refuted_bill(failing, W, P, 1))
        self.assertIsInstance(raised(refuted_bill, failing, W, P, 2), ArithmeticError)
        self.assertEqual(refuted_bill(lambda load, ends: failing(load, ends) if load[1] == 1 else 0, W, P, 2),
                         ((1, 2), (0, 1)))

    def test_errors_in_their_order(self):
        many = Web(1, (by_turns((-1,) * 8),) * 5)
        for thing in odd_things():
            self.assertIsInstance(raised(refuted_bill, None, many, thing, None), NoPrices)
        self.assertIsInstance(raised(refuted_bill, None, FREE, {(0, 0, 0): (1, 1)}, None), NoTable)
        for most in [0, 4, -1, True, False, None, "1", (1,), 10 ** 60]:
            self.assertIsInstance(raised(refuted_bill, None, many, {}, most), NoNumber)
        error = raised(refuted_bill, None, many, {}, 1)
        self.assertEqual((type(error), error.most), (TooMany, 20000))

    def test_too_many_pairs(self):
        # 2 ** 5 loads and 5 ** 4 ends come to just 20000 pairs.
        just = Web(1, (by_turns((-1,) * 5),) * 4 + (by_turns((-1,)),))
        self.assertIsNone(refuted_bill(lambda load, ends: (0, 1), just, {}, 2))
        self.assertEqual(refuted_bill(lambda load, ends: (0, 1) if load + ends < (2, 2, 2, 2, 2, 4) else 0, just, {}, 2),
                         ((2, 2, 2, 2, 2), (4, 0, 0, 0, 0)))
        self.assertIsInstance(raised(refuted_bill, None, just, {}, 3), TooMany)
        # All standings are counted, those that cannot come, too.
        more = Web(1, (by_turns((-1,) * 7),) * 3 + (by_turns((-1,) * 4), by_turns((-1,) * 2)))
        self.assertIsInstance(raised(refuted_bill, None, more, {}, 2), TooMany)
        self.assertIsNone(refuted_bill(lambda load, ends: (0, 1), more, {}, 1))


class TogetherTest(unittest.TestCase):
    """4.1, 4.4, 4.5 once more, asked together with what strangers claim."""

    def test_ends_by_the_numbers_of_forests(self):
        for seed in range(30):
            web = some_web(seed, 3, 3, 3)
            coming = {}
            for number in range(many_forests(web)):
                forest = forest_at(web, number)
                self.assertEqual(forest_number(web, forest), number)
                coming[tuple([next_of(web, step) for step in forest])] = True
            self.assertEqual(sorted(coming), all_ends(web))
            self.assertIsNone(refuted(lambda ends: ends in coming, web))
            least = all_ends(web)[0]
            self.assertEqual(refuted(lambda ends: ends in coming and ends != least, web), least)

    def test_bills_of_one_load_are_no_further_apart_than_the_spread(self):
        for seed in range(30):
            web = some_web(seed, 3, 3, 2)
            prices = chosen_prices(seed, web)[1]
            load = (1,) * len(web.dealers)
            bills = [told_bill(web, prices, load, ends) for ends in all_ends(web)]
            low = min(bills, key=lambda one: as_number(one))
            high = max(bills, key=lambda one: as_number(one))
            self.assertEqual(as_number(high) - as_number(low), as_number(spread(web, prices)))
            found = refuted_bill(lambda some, ends: low, web, prices, 1)
            self.assertEqual(found is None, spread(web, prices) == (0, 1))
            self.assertIsNone(refuted_bill(right_bill(web, prices), web, prices, 1))

    def test_webs_of_one_end(self):
        self.assertIsNone(refuted(right_for(FREE), FREE))
        self.assertEqual(refuted(lambda ends: False, FREE), (0,))
        self.assertIsNone(refuted(lambda ends: True, Web(1, (freely((-1, 0)),))))


def as_number(told):
    from fractions import Fraction
    return Fraction(*told)


if __name__ == "__main__":
    unittest.main()
