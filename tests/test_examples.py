"""The examples of the document, as they stand, and the names of its interface."""

import importlib
import inspect
import unittest

from lastdoors.chances import evenly, mean_worths
from lastdoors.classes import many_classes, reduced
from lastdoors.diaries import many_walks
from lastdoors.fitting import fits
from lastdoors.forests import all_ends
from lastdoors.heaviest import spread
from lastdoors.making import by_turns, freely
from lastdoors.numbering import many_forests
from lastdoors.plays import played
from lastdoors.powers import divisors
from lastdoors.settling import settled
from lastdoors.tables import table, told_bill
from lastdoors.texts import web_text
from lastdoors.webs import Web, steps

INTERFACE = {
    "webs": ["Web(cups, dealers)", "steps(web)", "into(web, door)", "leads_on(web, house)", "door_of(web, step)",
             "next_of(web, step)"],
    "making": ["by_turns(doors)", "in_rounds(doors)", "freely(doors)", "never_ahead(one, other, most)"],
    "plays": ["played(web, load, moves)", "are_moves(web, thing)", "is_play(web, load, thing)", "used(web, moves)",
              "last_steps(web, moves)", "led(web, load, order, choose)"],
    "tables": ["bill(web, prices, moves)", "told_bill(web, prices, load, ends)", "table(web, prices)",
               "share_table(web, cup)", "is_table(web, prices, thing)"],
    "rounds": ["are_rounds(web, thing)", "are_unlike(web, prices, thing)", "unlike(web, prices)"],
    "apart": ["far_apart(web, prices, gap)"],
    "forests": ["is_forest(web, thing)", "can_end(web, ends)", "forest_for(web, ends)", "all_ends(web)"],
    "numbering": ["many_forests(web)", "forest_number(web, forest)", "forest_at(web, number)"],
    "reaching": ["reached_by(web, forest)"],
    "heaviest": ["heaviest(web, weights)", "most(web, prices)", "least(web, prices)",
                 "bound_of(web, weights, nest)", "nest(web, weights)", "is_nest(web, weights, thing)",
                 "spread(web, prices)", "cup_bounds(web, cup, load)"],
    "small": ["ends_of(web, load)", "most_of(web, prices, load)", "shortest_play(web, load)"],
    "settling": ["is_fixed(thing)", "settled(web, load)", "often(web, load)"],
    "classes": ["alike_loads(web, one, other)", "reduced(web, load)", "ends_of_class(web, load)",
                "many_classes(web)", "classes(web)"],
    "powers": ["times_home(web, load)", "opposite(web, load)", "divisors(web)"],
    "fitting": ["fits(web, load, ends)", "are_numbers(web, load, ends, thing)", "is_witness(web, load, ends, thing)",
                "numbers_for(web, load, ends)", "witness(web, load, ends)", "fitting_ends(web, load)",
                "fitting_loads(web, ends, most)"],
    "diaries": ["many_walks(web, house, counts, last)", "many_diaries(web, counts)", "some_diaries(web, counts)",
                "play_of(web, diaries)", "are_diaries(web, counts, thing)", "load_of(web, counts)",
                "counts_of(web, diaries)"],
    "joining": ["beside(one, other)", "behind(one, cup, other, house)", "renumbered(web, order)",
                "without_choice(web, numbers)", "loads_add(web, one, other)"],
    "yards": ["Yard(web)"],
    "texts": ["web_text(web)", "load_text(web, load)", "moves_text(web, moves)", "prices_text(web, prices)"],
    "reading": ["read_web(text)", "read_load(web, text)", "read_moves(web, text)", "read_prices(web, text)"],
    "desk": ["Desk()"],
    "chances": ["evenly(web)", "long_shares(web, chances)", "chances_of(web, rounds)",
                "mean_worths(web, chances, prices)", "home_shares(web, chances)", "unlike_chances(web, prices)",
                "are_unlike_chances(web, prices, thing)"],
    "strangers": ["refuted(claim, web)", "refuted_bill(claim, web, prices, most)"],
}
METHODS = {
    "yards.Yard": ["pour(self, house, many)", "deal(self, house, number)", "run(self, order, choose)", "heaps(self)",
                   "stands(self)", "filled(self)", "poured(self)", "dealt(self)", "spent(self, prices)",
                   "owed(self, prices)", "back(self)", "depth(self)", "copy(self)", "trying(self, action)"],
    "desk.Desk": ["tell(self, line)", "undoable(self)"],
}


class ExamplesTest(unittest.TestCase):

    def setUp(self):
        self.w = Web(2, (by_turns((-1, 1)), by_turns((-2, 0))))
        self.p = {(0, 0, 0): (1, 1)}

    def test_e01(self):
        self.assertEqual(self.w.dealers, ((((-1, 1),), ((1, 0),)), (((-2, 1),), ((0, 0),))))

    def test_e02(self):
        self.assertEqual(steps(self.w), [(0, 0, 0), (0, 1, 0), (1, 0, 0), (1, 1, 0)])

    def test_e03(self):
        self.assertEqual(table(self.w, self.p), (((2, 3), (1, 3)), (((0, 1), (1, 3)), ((0, 1), (-1, 3)))))

    def test_e04(self):
        self.assertEqual(all_ends(self.w), [(0, 1), (1, 0), (1, 1)])

    def test_e05(self):
        self.assertEqual(spread(self.w, self.p), (2, 3))

    def test_e06(self):
        self.assertEqual(settled(self.w, (2, 1)), ((1, 0), (2, 1)))

    def test_e07(self):
        self.assertEqual(many_classes(self.w), 3)
        self.assertEqual(reduced(self.w, (2, 1)), (0, 2))

    def test_e08(self):
        self.assertEqual(played(self.w, (1, 1), ((0, 0), (1, 0))), ((0, 0), (1, 1), (1, 1)))

    def test_e09(self):
        self.assertIs(fits(self.w, (1, 1), (1, 1)), True)

    def test_e10(self):
        self.assertIsNone(table(Web(2, (freely((-2, -1)),)), {(0, 0, 0): (1, 1)}))

    def test_e11(self):
        free = Web(2, (freely((-2, -1)),))
        self.assertEqual(many_walks(free, 0, {(0, 0, 0): 2, (0, 0, 1): 1}, (0, 0, 0)), 2)

    def test_e12(self):
        self.assertEqual(web_text(self.w), "cups 2\nhouse\nc0>1\nh1>0\nhouse\nc1>1\nh0>0\n")

    def test_e13(self):
        self.assertEqual(told_bill(self.w, self.p, (1, 2), (1, 0)), (5, 3))

    def test_e14(self):
        self.assertEqual(many_forests(self.w), 3)

    def test_e15(self):
        self.assertEqual(divisors(self.w), (3,))

    def test_e16(self):
        self.assertEqual(mean_worths(self.w, evenly(self.w), self.p), ((2, 3), (1, 3)))


class InterfaceTest(unittest.TestCase):

    def test_names_arguments_and_files(self):
        for name, listed in INTERFACE.items():
            module = importlib.import_module("lastdoors." + name)
            for one in listed:
                thing = getattr(module, one.partition("(")[0])
                self.assertEqual(thing.__module__, "lastdoors." + name)
                self.assertEqual(thing.__name__ + str(inspect.signature(thing)), one)

    def test_methods_stand_in_the_class_itself(self):
        for name, listed in METHODS.items():
            module, _, word = name.partition(".")
            own = vars(getattr(importlib.import_module("lastdoors." + module), word))
            for one in listed:
                thing = own[one.partition("(")[0]]
                self.assertEqual(thing.__name__ + str(inspect.signature(thing)), one)


if __name__ == "__main__":
    unittest.main()
