"""0.1 to 0.4 over all functions: what arguments may be, that nothing is changed, equal answers."""

import unittest
from copy import deepcopy

from lastdoors.apart import far_apart
from lastdoors.chances import (are_unlike_chances, chances_of, evenly, home_shares, long_shares, mean_worths,
                               unlike_chances)
from lastdoors.classes import alike_loads, classes, ends_of_class, many_classes, reduced
from lastdoors.desk import Desk
from lastdoors.diaries import (are_diaries, counts_of, load_of, many_diaries, many_walks, play_of,
                               some_diaries)
from lastdoors.errors import DoorError
from lastdoors.fitting import are_numbers, fits, fitting_ends, fitting_loads, is_witness, numbers_for, witness
from lastdoors.forests import all_ends, can_end, forest_for, is_forest
from lastdoors.heaviest import bound_of, cup_bounds, heaviest, is_nest, least, most, nest, spread
from lastdoors.joining import behind, beside, loads_add, renumbered, without_choice
from lastdoors.making import by_turns, freely, in_rounds, never_ahead
from lastdoors.numbering import forest_at, forest_number, many_forests
from lastdoors.plays import are_moves, is_play, last_steps, led, played, used
from lastdoors.powers import divisors, opposite, times_home
from lastdoors.reaching import reached_by
from lastdoors.reading import read_load, read_moves, read_prices, read_web
from lastdoors.rounds import are_rounds, are_unlike, unlike
from lastdoors.settling import is_fixed, often, settled
from lastdoors.small import ends_of, most_of, shortest_play
from lastdoors.strangers import refuted, refuted_bill
from lastdoors.tables import bill, is_table, share_table, table, told_bill
from lastdoors.texts import load_text, moves_text, prices_text, web_text
from lastdoors.webs import Web, door_of, into, leads_on, next_of, steps
from lastdoors.yards import Yard
from tests.helpers import FREE, P, W, odd_things, pair, random_play, some_prices, some_web

HALF = {(0, 0, 0): (1, 2), (0, 0, 1): (-2, 3)}
MOVES = ((0, 0), (1, 0))
FOREST = ((0, 0, 0), (1, 1, 0))
WEIGHTS = {(0, 1, 0): 3, (1, 1, 0): 2}
COUNTS = {(0, 0, 0): 1, (0, 1, 0): 1, (1, 0, 0): 1}


def first_house(waiting, ends):
    return [house for house, many in enumerate(waiting) if many][0]


def no_choice(house, standing):
    return 0


def no_claim(*asked):
    return None


def right_calls():
    """A right call of each function, its arguments in a list."""
    two = unlike(FREE, HALF)
    even = evenly(FREE)
    return [
        (steps, [W]), (into, [W, 0]), (leads_on, [W, 0]), (door_of, [W, (0, 0, 0)]), (next_of, [W, (0, 0, 0)]),
        (by_turns, [(0, 1)]), (in_rounds, [(0, 1)]), (freely, [(0, 1)]), (never_ahead, [0, 1, 2]),
        (played, [W, (1, 1), MOVES]), (are_moves, [W, MOVES]), (is_play, [W, (1, 1), MOVES]), (used, [W, MOVES]),
        (last_steps, [W, MOVES]), (led, [W, (1, 1), first_house, no_choice]), (bill, [W, P, MOVES]),
        (table, [W, P]), (is_table, [W, P, table(W, P)]), (told_bill, [W, P, (1, 2), (1, 0)]), (share_table, [W, 0]),
        (are_rounds, [FREE, two[0]]), (are_unlike, [FREE, HALF, two]), (unlike, [FREE, HALF]),
        (far_apart, [FREE, HALF, 2]), (is_forest, [W, ((0, 0, 0), (1, 0, 0))]), (can_end, [W, (1, 1)]),
        (forest_for, [W, (1, 1)]), (all_ends, [W]), (many_forests, [W]), (forest_at, [W, 1]),
        (forest_number, [W, FOREST]), (reached_by, [W, FOREST]), (heaviest, [W, WEIGHTS]),
        (bound_of, [W, WEIGHTS, (((0, 1), 2),)]), (nest, [W, WEIGHTS]), (is_nest, [W, WEIGHTS, nest(W, WEIGHTS)]),
        (most, [W, P]), (least, [W, P]), (spread, [W, P]), (cup_bounds, [W, 0, (1, 1)]), (ends_of, [W, (1, 2)]),
        (most_of, [W, P, (1, 2)]), (shortest_play, [W, (1, 2)]), (is_fixed, [W]), (settled, [W, (2, 1)]),
        (often, [W, (2, 1)]), (alike_loads, [W, (2, 1), (0, 2)]), (reduced, [W, (2, 1)]), (many_classes, [W]),
        (classes, [W]), (ends_of_class, [W, (0, 1)]), (times_home, [W, (0, 1)]), (opposite, [W, (0, 1)]),
        (divisors, [W]), (fits, [W, (1, 1), (1, 1)]), (numbers_for, [W, (1, 1), (1, 1)]),
        (are_numbers, [W, (1, 1), (1, 1), numbers_for(W, (1, 1), (1, 1))]), (witness, [W, (1, 1), (0, 1)]),
        (is_witness, [W, (1, 1), (0, 1), witness(W, (1, 1), (0, 1))]), (fitting_ends, [W, (1, 1)]),
        (fitting_loads, [W, (1, 1), 2]), (many_walks, [W, 0, COUNTS, (0, 1, 0)]), (many_diaries, [W, COUNTS]),
        (some_diaries, [W, COUNTS]), (are_diaries, [W, COUNTS, ((0, 0), (0,))]), (load_of, [W, COUNTS]),
        (counts_of, [W, ((0, 0), (0,))]), (play_of, [W, ((0, 0), (0,))]), (renumbered, [W, (1, 0)]),
        (without_choice, [FREE, ((1,),)]), (loads_add, [W, (1, 2), (0, 3)]), (web_text, [W]),
        (load_text, [W, (1, 2)]), (moves_text, [W, MOVES]), (prices_text, [W, P]), (read_web, [web_text(W)]),
        (read_load, [W, "1 2"]), (read_moves, [W, "0.0 1.0"]), (read_prices, [W, "0.0.0 1/1\n"]), (evenly, [FREE]),
        (long_shares, [FREE, even]), (chances_of, [FREE, two[0]]), (mean_worths, [FREE, even, HALF]),
        (home_shares, [FREE, even]), (unlike_chances, [FREE, HALF]),
        (are_unlike_chances, [FREE, HALF, unlike_chances(FREE, HALF)]), (refuted, [no_claim, W]),
        (refuted_bill, [no_claim, W, P, 2]),
    ]


def changes_inside(thing, others):
    """A thing with one part in it put out, put in, or put into the place of another one."""
    if isinstance(thing, (tuple, list)):
        kind = type(thing)
        yield thing[1:]
        yield thing + thing[-1:]
        yield list(thing) if kind is tuple else tuple(thing)
        for at, part in enumerate(thing):
            for other in others + list(changes_inside(part, others)):
                yield thing[:at] + kind([other]) + thing[at + 1:]
    elif isinstance(thing, dict):
        for key, part in thing.items():
            left = {other: thing[other] for other in thing if other != key}
            yield left
            for other in others + list(changes_inside(part, others)):
                yield {**thing, key: other}
                if is_key(other):
                    yield {**left, other: part}
    elif type(thing) is int:
        yield from (thing + 1, thing - 1, 10 ** 60)


def is_key(thing):
    try:
        return hash(thing) is not None
    except TypeError:
        return False


class GeneralTest(unittest.TestCase):

    def test_no_argument_is_changed_and_equal_calls_give_equal_answers(self):
        for call, given in right_calls():
            kept = deepcopy([thing for thing in given if not callable(thing)])
            first = call(*given)
            answer = deepcopy(first)
            self.assertEqual([thing for thing in given if not callable(thing)], kept, call)
            if isinstance(first, (list, dict)):
                first.clear()
            self.assertEqual(call(*given), answer, call)

    def test_no_other_error_whatever_an_argument_is(self):
        for call, given in right_calls():
            for at in range(len(given)):
                if callable(given[at]) or isinstance(given[at], Web):
                    continue
                for thing in odd_things():
                    changed = given[:at] + [thing] + given[at + 1:]
                    try:
                        answer = call(*changed)
                    except DoorError:
                        continue
                    if call.__name__[:3] in ("is_", "are"):
                        self.assertIn(answer, (True, False))

    def test_no_other_error_whatever_is_inside_an_argument(self):
        things = odd_things()
        for call, given in right_calls():
            for at in range(len(given)):
                if callable(given[at]) or isinstance(given[at], Web):
                    continue
                for changed in changes_inside(given[at], things):
                    try:
                        answer = call(*given[:at], changed, *given[at + 1:])
                    except DoorError:
                        continue
                    if call.__name__[:3] in ("is_", "are"):
                        self.assertIn(answer, (True, False))

    def test_no_other_error_in_putting_webs_together_and_in_yards(self):
        yard = Yard(W)
        yard.pour(0, 2)
        for thing in odd_things():
            for call, given in [(behind, [W, thing, FREE, 0]), (behind, [W, 0, FREE, thing]),
                                (yard.copy().pour, [thing, 1]), (yard.copy().pour, [0, thing]),
                                (yard.copy().deal, [thing, 0]), (yard.copy().deal, [0, thing]),
                                (Desk().tell, [thing]), (Web, [thing, W.dealers]), (Web, [2, thing]),
                                (yard.spent, [thing]), (yard.owed, [thing])]:
                try:
                    call(*given)
                except DoorError:
                    continue

    def test_objects_are_equal_to_nothing_of_another_kind(self):
        for one in (W, Yard(W), Desk()):
            for other in odd_things() + [Yard(W), Yard, Desk()]:
                if type(one) is not type(other):
                    self.assertFalse(one == other)
                    self.assertTrue(one != other)

    def test_judges_return_flags_and_judge_none(self):
        for call, given in right_calls():
            if call.__name__.startswith(("is_", "are_")):
                self.assertIs(call(*given), True, call)
                self.assertIs(call(*given[:-1], None), False, call)

    def test_a_call_that_raises_changes_nothing(self):
        prices = {(0, 0, 0): (2, 4), (0, 1, 0): (1, 1)}
        kept = deepcopy(prices)
        with self.assertRaises(DoorError):
            table(W, prices)
        self.assertEqual(prices, kept)

    def test_webs_stay_as_they_are(self):
        dealers = W.dealers
        for call, given in right_calls():
            call(*given)
        self.assertEqual(beside(W, FREE), beside(W, FREE))
        self.assertEqual(behind(W, 0, FREE, 0), behind(W, 0, FREE, 0))
        self.assertEqual(len(FREE.dealers), 1)
        self.assertEqual(W, Web(2, dealers))

    def test_fractions_are_in_lowest_terms(self):
        for seed in range(30):
            web = some_web(seed)
            prices = some_prices(seed, web)
            moves, ends = random_play(seed, web, (1,) * len(web.dealers))
            told = [bill(web, prices, moves)]
            found = table(web, prices)
            if found is not None:
                told.append(told_bill(web, prices, (1,) * len(web.dealers), ends))
                told.extend(found[0])
                told.extend([lead for row in found[1] for lead in row])
            for fraction in told:
                self.assertIs(type(fraction), tuple)
                self.assertEqual(fraction, pair(as_fraction(fraction)))


def as_fraction(told):
    from fractions import Fraction
    return Fraction(*told)


if __name__ == "__main__":
    unittest.main()
