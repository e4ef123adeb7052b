"""10.1: a yard, behind drawn deeds, against an account kept here."""

import random
import unittest
from copy import deepcopy
from fractions import Fraction

from lastdoors.errors import NoGrain, NoHouse, NoMoves, NoNumber, NoPrices, NoTable, NothingDone, TooMany
from lastdoors.making import by_turns, freely
from lastdoors.plays import led, played
from lastdoors.tables import bill, table
from lastdoors.webs import Web
from lastdoors.yards import Yard
from tests.helpers import FREE, P, W, chosen_prices, made_webs, odd_things, raised, some_prices, some_web


class Account:
    """What is in a yard, worked out plainly; the accounts ahead of each deed are kept."""

    def __init__(self, web):
        self.web = web
        self.now = {"heaps": [0] * len(web.dealers), "stands": [0] * len(web.dealers), "filled": [0] * web.cups,
                    "poured": [0] * len(web.dealers), "dealt": []}
        self.past = []

    def begin(self):
        self.past.append(deepcopy(self.now))

    def pour(self, house, many):
        self.now["heaps"][house] += many
        self.now["poured"][house] += many

    def deal(self, house, number):
        door, after = self.web.dealers[house][self.now["stands"][house]][number]
        self.now["heaps"][house] -= 1
        self.now["stands"][house] = after
        self.now["dealt"].append((house, number))
        if door >= 0:
            self.now["heaps"][door] += 1
        else:
            self.now["filled"][-1 - door] += 1

    def back(self):
        self.now = self.past.pop()


def told(yard):
    """All that a yard tells of itself."""
    return {"heaps": yard.heaps(), "stands": yard.stands(), "filled": yard.filled(), "poured": yard.poured(),
            "dealt": yard.dealt(), "depth": yard.depth()}


def by_account(account):
    """What a yard has to tell of itself by an account."""
    found = {name: tuple(numbers) for name, numbers in account.now.items()}
    found["depth"] = len(account.past)
    return found


def first_house(waiting, ends):
    return [house for house, many in enumerate(waiting) if many][0]


def first_step(house, standing):
    return 0


def drawn_deed(source, web, yard, account):
    """Do a deed by chance in a yard and in its account."""
    able = [house for house, many in enumerate(account.now["heaps"]) if many]
    word = source.choice(["pour", "deal", "deal", "deal", "run", "back"])
    if word == "pour" or word == "deal" and not able:
        house, many = source.randrange(len(web.dealers)), source.choice([1, 2, 3])
        account.begin()
        account.pour(house, many)
        return yard.pour(house, many)
    if word == "deal":
        house = source.choice(able)
        number = source.randrange(len(web.dealers[house][account.now["stands"][house]]))
        account.begin()
        account.deal(house, number)
        return yard.deal(house, number)
    if word == "back":
        if account.past:
            account.back()
            return yard.back()
        return None
    salt = source.randrange(1000)

    def order(waiting, ends):
        able = [house for house, many in enumerate(waiting) if many]
        return able[(salt + sum(waiting)) % len(able)]

    def choose(house, standing):
        return (salt + house) % len(web.dealers[house][standing])

    # By numbers that are always the same a grain may go round for ever.
    free = raised(yard.copy().run, order, choose) is None
    if not free:
        return None
    moves = yard.run(order, choose)
    account.begin()
    while any(account.now["heaps"]):
        house = order(tuple(account.now["heaps"]), tuple(account.now["stands"]))
        account.deal(house, choose(house, account.now["stands"][house]))
    return None if moves == tuple(account.now["dealt"][len(account.past[-1]["dealt"]):]) else moves


class YardTest(unittest.TestCase):

    def test_at_first(self):
        for web in made_webs():
            yard = Yard(web)
            none = (0,) * len(web.dealers)
            self.assertEqual(told(yard), {"heaps": none, "stands": none, "filled": (0,) * web.cups, "poured": none,
                                          "dealt": (), "depth": 0})
            self.assertEqual((yard.spent({}), yard.owed({})), ((0, 1), (0, 1)))

    def test_drawn_deeds_against_an_account(self):
        for seed in range(30):
            web = some_web(seed)
            source = random.Random(seed)
            yard, account = Yard(web), Account(web)
            others = []
            for _ in range(60):
                self.assertIsNone(drawn_deed(source, web, yard, account))
                self.assertEqual(told(yard), by_account(account))
                if source.random() < 0.1:
                    others.append((yard.copy(), by_account(account)))
            for other, kept in others:
                self.assertEqual(told(other), kept)
            while account.past:
                self.assertIsNone(yard.back())
                account.back()
                self.assertEqual(told(yard), by_account(account))
            self.assertIsInstance(raised(yard.back), NothingDone)

    def test_what_is_told_is_tuples_of_integers(self):
        yard = Yard(W)
        yard.pour(0, 2)
        yard.deal(0, 0)
        for name, thing in told(yard).items():
            self.assertIs(type(thing), int if name == "depth" else tuple)
        self.assertEqual(told(yard), {"heaps": (1, 0), "stands": (1, 0), "filled": (1, 0), "poured": (2, 0),
                                      "dealt": ((0, 0),), "depth": 2})


class PourTest(unittest.TestCase):

    def test_how_many(self):
        yard = Yard(W)
        self.assertIsNone(yard.pour(1, 10 ** 6))
        self.assertIsNone(yard.pour(1, 1))
        self.assertIsNone(yard.pour(1, 10 ** 6))
        self.assertEqual(yard.heaps(), (0, 2 * 10 ** 6 + 1))
        kept = told(yard)
        for many in [0, -1, 10 ** 6 + 1, True, False, None, "1", (1,), [1], 10 ** 60] + odd_things():
            self.assertIsInstance(raised(yard.pour, 0, many), NoNumber, many)
        for house in [2, -1, True, False, None, "0", (0,), 10 ** 60]:
            self.assertIsInstance(raised(yard.pour, house, 1), NoHouse, house)
            self.assertIsInstance(raised(yard.pour, house, 0), NoHouse, house)
        self.assertEqual(told(yard), kept)


class DealTest(unittest.TestCase):

    def test_errors_in_their_order(self):
        yard = Yard(Web(2, (freely((-2, -1, 1)), by_turns((-1, 0)))))
        yard.pour(0, 1)
        kept = told(yard)
        for house in [2, -1, True, False, None, "0", (0,), 10 ** 60]:
            self.assertIsInstance(raised(yard.deal, house, None), NoHouse, house)
        for number in [0, 1, None]:
            self.assertIsInstance(raised(yard.deal, 1, number), NoGrain)
        for number in [3, -1, True, False, None, "0", (0,), 10 ** 60] + odd_things():
            self.assertIsInstance(raised(yard.deal, 0, number), NoNumber, number)
        self.assertEqual(told(yard), kept)
        self.assertIsNone(yard.deal(0, 2))
        self.assertEqual(yard.heaps(), (0, 1))

    def test_numbers_are_those_at_the_standing(self):
        yard = Yard(Web(1, ((((-1, 0), (-1, 1)), ((-1, 0),)),)))
        yard.pour(0, 5)
        yard.deal(0, 1)
        self.assertIsInstance(raised(yard.deal, 0, 1), NoNumber)
        yard.deal(0, 0)
        self.assertIsNone(yard.deal(0, 1))
        self.assertEqual(yard.dealt(), ((0, 1), (0, 0), (0, 1)))


class RunTest(unittest.TestCase):

    def test_runs_go_on_from_where_dealers_stand(self):
        yard = Yard(W)
        yard.pour(0, 1)
        yard.deal(0, 0)
        yard.pour(0, 1)
        self.assertEqual(yard.run(first_house, first_step), ((0, 0), (1, 0)))
        self.assertEqual((yard.heaps(), yard.stands(), yard.filled()), ((0, 0), (0, 1), (1, 1)))
        self.assertEqual(yard.depth(), 4)
        yard.back()
        self.assertEqual((yard.heaps(), yard.stands(), yard.filled()), ((1, 0), (1, 0), (1, 0)))

    def test_as_led_from_the_first_standings(self):
        for seed in range(30):
            web = Web(2, (by_turns((-1, 1, 0)), freely((-2, -1, 0))))
            load = (seed % 4, seed % 5)
            yard = Yard(web)
            for house, many in enumerate(load):
                if many:
                    yard.pour(house, many)
            moves = led(web, load, first_house, first_step)
            self.assertEqual(yard.run(first_house, first_step), moves)
            waiting, ends, cups = played(web, load, moves)
            self.assertEqual((yard.heaps(), yard.stands(), yard.filled()), (waiting, ends, cups))

    def test_where_none_waits_it_is_one_deed(self):
        yard = Yard(W)
        self.assertEqual(yard.run(None, None), ())
        self.assertEqual(yard.depth(), 1)
        self.assertEqual(yard.run(first_house, first_step), ())
        self.assertEqual(yard.depth(), 2)
        yard.back()
        yard.back()
        self.assertIsInstance(raised(yard.back), NothingDone)

    def test_wrong_houses_and_numbers(self):
        yard = Yard(W)
        yard.pour(0, 3)
        yard.deal(0, 0)
        kept = told(yard)
        for thing in [1, 2, -1, True, False, None, "0", (0,)] + odd_things():
            self.assertIsInstance(raised(yard.run, lambda waiting, ends: thing, first_step), NoMoves)
        for thing in [1, -1, True, False, None, "0", (0,)] + odd_things():
            self.assertIsInstance(raised(yard.run, first_house, lambda house, standing: thing), NoMoves)
        # What is wrong later on is raised, too, and takes all back.
        late = raised(yard.run, lambda waiting, ends: 0 if waiting[0] == 2 else None, first_step)
        self.assertIsInstance(late, NoMoves)
        self.assertEqual(told(yard), kept)

    def test_errors_of_the_functions_go_on(self):
        yard = Yard(W)
        yard.pour(0, 3)
        kept = told(yard)

        def failing(one, other):
            return {}["no such key"]

        def failing_late(house, standing):
            if house == 1:
                raise ArithmeticError("late")
            return 0

        self.assertIsInstance(raised(yard.run, failing, first_step), KeyError)
        self.assertIsInstance(raised(yard.run, first_house, failing), KeyError)
        self.assertIsInstance(raised(yard.run, first_house, failing_late), ArithmeticError)
        self.assertEqual(told(yard), kept)

    def test_what_the_functions_do_to_the_yard_is_put_back(self):
        yard = Yard(W)
        yard.pour(0, 2)
        kept = told(yard)

        def meddling(waiting, ends):
            yard.pour(1, 1)
            yard.back()
            yard.back()
            yard.pour(0, 9)
            return first_house(waiting, ends)

        def failing(house, standing):
            yard.pour(1, 1)
            raise ArithmeticError("on")

        self.assertIsInstance(raised(yard.run, meddling, failing), ArithmeticError)
        self.assertEqual(told(yard), kept)
        other = yard.copy()
        self.assertEqual(yard.run(meddling, first_step), other.run(first_house, first_step))
        self.assertEqual(told(yard), told(other))

    def test_too_many_moves(self):
        yard = Yard(FREE)
        yard.pour(0, 30000)
        self.assertEqual(len(yard.run(first_house, first_step)), 30000)
        self.assertEqual(yard.depth(), 2)
        yard.pour(0, 30001)
        kept = told(yard)
        error = raised(yard.run, first_house, first_step)
        self.assertEqual((type(error), error.most), (TooMany, 30000))
        self.assertEqual(told(yard), kept)
        ring = Yard(Web(1, (freely((-1, 0)),)))
        ring.pour(0, 1)
        error = raised(ring.run, first_house, lambda house, standing: 1)
        self.assertEqual((type(error), error.most), (TooMany, 30000))
        self.assertEqual(ring.heaps(), (1,))

    def test_what_the_functions_are_asked(self):
        asked = []

        def order(waiting, ends):
            asked.append((waiting, ends))
            return first_house(waiting, ends)

        yard = Yard(W)
        yard.pour(0, 2)
        yard.run(order, first_step)
        self.assertEqual(asked, [((2, 0), (0, 0)), ((1, 0), (1, 0)), ((0, 1), (0, 0))])


class BackTest(unittest.TestCase):

    def test_nothing_done(self):
        yard = Yard(W)
        self.assertIsInstance(raised(yard.back), NothingDone)
        yard.pour(0, 1)
        self.assertIsNone(yard.back())
        self.assertIsInstance(raised(yard.back), NothingDone)
        self.assertEqual(told(yard), told(Yard(W)))

    def test_what_is_asked_or_raised_is_no_deed(self):
        yard = Yard(W)
        yard.pour(0, 1)
        for call in [yard.heaps, yard.stands, yard.filled, yard.poured, yard.dealt, yard.depth, yard.copy]:
            call()
        yard.spent({})
        yard.owed({})
        raised(yard.pour, 0, 0)
        raised(yard.deal, 1, 0)
        raised(yard.run, None, None)
        self.assertEqual(yard.depth(), 1)

    def test_a_copy_goes_on_apart_and_back_as_far(self):
        yard = Yard(W)
        yard.pour(0, 2)
        yard.deal(0, 0)
        other = yard.copy()
        self.assertIs(type(other), Yard)
        kept = told(yard)
        other.deal(0, 0)
        other.pour(1, 5)
        self.assertEqual(told(yard), kept)
        self.assertEqual(other.depth(), 4)
        for _ in range(4):
            other.back()
        self.assertEqual(told(other), told(Yard(W)))
        self.assertEqual(told(yard), kept)
        yard.back()
        self.assertEqual(yard.heaps(), (2, 0))
        self.assertIsInstance(raised(other.back), NothingDone)
        self.assertFalse(yard == other)

    def test_many_deeds(self):
        yard = Yard(FREE)
        yard.pour(0, 30000)
        for _ in range(30000):
            yard.deal(0, 1)
        self.assertEqual(yard.filled(), (30000, 0))
        self.assertEqual(yard.trying(lambda same: same.depth()), 30001)
        for _ in range(30001):
            yard.back()
        self.assertEqual(told(yard), told(Yard(FREE)))


class TryingTest(unittest.TestCase):

    def setUp(self):
        self.yard = Yard(W)
        self.yard.pour(0, 3)
        self.yard.deal(0, 0)
        self.kept = told(self.yard)

    def test_with_a_result(self):
        def action(yard):
            self.assertIs(yard, self.yard)
            yard.pour(1, 7)
            yard.run(first_house, first_step)
            return [yard.filled(), yard.depth()]
        self.assertEqual(self.yard.trying(action), [(4, 6), 4])
        self.assertEqual(told(self.yard), self.kept)
        self.assertIsNone(self.yard.trying(lambda yard: None))

    def test_with_an_error_that_goes_on(self):
        def action(yard):
            yard.pour(1, 7)
            raise ArithmeticError("on")
        self.assertIsInstance(raised(self.yard.trying, action), ArithmeticError)
        self.assertEqual(told(self.yard), self.kept)
        self.assertIsInstance(raised(self.yard.trying, lambda yard: yard.deal(1, 0)), NoGrain)
        self.assertEqual(told(self.yard), self.kept)

    def test_one_within_another(self):
        def inner(yard):
            yard.pour(1, 1)
            return yard.heaps()

        def failing(yard):
            yard.back()
            yard.back()
            yard.back()

        def outer(yard):
            yard.deal(0, 0)
            ahead = told(yard)
            found = yard.trying(inner)
            self.assertEqual(told(yard), ahead)
            self.assertIsInstance(raised(yard.trying, failing), type(None))
            self.assertIsInstance(raised(yard.trying, lambda same: same.trying(inner) and {}[0]), KeyError)
            self.assertEqual(told(yard), ahead)
            return found

        self.assertEqual(self.yard.trying(outer), (1, 2))
        self.assertEqual(told(self.yard), self.kept)

    def test_with_more_taken_back_than_was_done(self):
        def action(yard):
            yard.pour(1, 1)
            for _ in range(3):
                yard.back()
            self.assertEqual(yard.depth(), 0)
            yard.pour(1, 9)
            return yard.poured()
        self.assertEqual(self.yard.trying(action), (0, 9))
        self.assertEqual(told(self.yard), self.kept)
        self.yard.back()
        self.assertEqual(self.yard.heaps(), (3, 0))
        self.yard.back()
        self.assertEqual(told(self.yard), told(Yard(W)))

    def test_what_is_kept_of_a_trial_is_a_copy(self):
        def action(yard):
            yard.pour(1, 4)
            return yard.copy()
        other = self.yard.trying(action)
        self.assertEqual((other.heaps(), other.depth()), ((2, 4), 3))
        other.back()
        self.assertEqual(told(other), self.kept)


class SpentTest(unittest.TestCase):

    def test_by_hand(self):
        yard = Yard(W)
        yard.pour(0, 2)
        self.assertEqual((yard.spent(P), yard.owed(P)), ((0, 1), (4, 3)))
        yard.deal(0, 0)
        # The worths are 2/3 and 1/3, the lead of standing 1 of the first house 1/3.
        self.assertEqual((yard.spent(P), yard.owed(P)), ((1, 1), (1, 3)))

    def test_together_they_are_what_was_poured(self):
        for seed in range(50):
            web = some_web(seed)
            (worths, _), prices = chosen_prices(seed, web)
            source = random.Random(seed)
            yard, account = Yard(web), Account(web)
            for _ in range(30):
                drawn_deed(source, web, yard, account)
                spent, owed = yard.spent(prices), yard.owed(prices)
                self.assertEqual(spent, bill(web, prices, yard.dealt()))
                whole = sum([Fraction(*worth) * many for worth, many in zip(worths, yard.poured())], Fraction(0))
                self.assertEqual(Fraction(*spent) + Fraction(*owed), whole)

    def test_spent_where_there_is_no_table(self):
        prices = {(0, 0, 0): (1, 2)}
        self.assertIsNone(table(FREE, prices))
        yard = Yard(FREE)
        yard.pour(0, 3)
        yard.run(first_house, first_step)
        self.assertEqual(yard.spent(prices), (3, 2))
        self.assertIsInstance(raised(yard.owed, prices), NoTable)

    def test_no_prices(self):
        yard = Yard(FREE)
        for thing in [None, [], {(0, 0, 2): (1, 1)}, {(0, 0, 0): (2, 4)}, {(0, 0, 0): 1}, 0, True] + odd_things():
            if thing != {}:
                self.assertIsInstance(raised(yard.spent, thing), NoPrices)
                self.assertIsInstance(raised(yard.owed, thing), NoPrices)
        for seed in range(10):
            web = some_web(seed)
            self.assertIsNone(raised(Yard(web).spent, some_prices(seed, web)))


if __name__ == "__main__":
    unittest.main()
