"""1.1 and 1.2: webs, and what is asked of their steps and doors."""

import unittest

from lastdoors.errors import BadWeb, NoDoor, NoHouse, NoStep
from lastdoors.webs import Web, door_of, into, leads_on, next_of, steps
from tests.helpers import FREE, W, made_webs, odd_things, plain_steps, raised, some_web

HOME = (((-1, 0),),)


class BadWebTest(unittest.TestCase):

    def fault(self, cups, dealers):
        error = raised(Web, cups, dealers)
        self.assertIs(type(error), BadWeb, (cups, dealers))
        return error.part, error.at

    def test_cups(self):
        for cups in odd_things():
            self.assertEqual(self.fault(cups, (HOME,)), ("cups", -1))
        for cups in (0, 7, 100):
            self.assertEqual(self.fault(cups, None), ("cups", -1))
        for cups in range(1, 7):
            self.assertEqual(Web(cups, (HOME,)).cups, cups)

    def test_no_tuple_or_a_wrong_number_of_dealers(self):
        for dealers in (None, [HOME], (), (HOME,) * 9, HOME[0][0][0], "", W, {0: HOME}):
            self.assertEqual(self.fault(1, dealers), ("dealers", -1))
        for many in range(1, 9):
            self.assertEqual(len(Web(1, (HOME,) * many).dealers), many)

    def test_what_is_no_dealer(self):
        for dealer in odd_things():
            self.assertEqual(self.fault(1, (HOME, dealer, None)), ("dealers", 1))
            self.assertEqual(self.fault(1, ((dealer,),)), ("dealers", 0))
            self.assertEqual(self.fault(1, (((dealer,),), None)), ("dealers", 0))
            self.assertEqual(self.fault(1, ((((-1, dealer),),),)), ("dealers", 0))
            if dealer == -1:
                continue
            self.assertEqual(self.fault(1, (HOME, HOME, (((dealer, 0),),))), ("dealers", 2))

    def test_wrong_pairs(self):
        for standing in ((), ((-1, 0), (-1, 0)), ((0, 0), (-1, 0)), ((-1, 0, 0),), ((-1,),), [(-1, 0)], ([-1, 0],),
                         ((-3, 0),), ((1, 0),), ((-1, 1),), ((-1, -1),), ((True, 0),), ((-1, False),)):
            self.assertEqual(self.fault(2, ((standing,),)), ("dealers", 0), standing)
        self.assertEqual(self.fault(2, ([((-1, 0),)],)), ("dealers", 0))
        self.assertEqual(self.fault(2, (HOME, ())), ("dealers", 1))

    def test_limits_of_standings_and_steps(self):
        def ring(many):
            return tuple([((-1, (k + 1) % many),) for k in range(many)])
        self.assertEqual(len(Web(1, (ring(8),)).dealers[0]), 8)
        self.assertEqual(self.fault(1, (ring(9),)), ("dealers", 0))
        six = tuple([(door, 0) for door in range(-6, 0)])
        self.assertEqual(Web(6, ((six,),)).dealers, ((six,),))
        self.assertEqual(self.fault(6, ((six + ((0, 0),),),)), ("dealers", 0))

    def test_apart(self):
        one_way = (((-1, 1),), ((-1, 1),))
        two_rings = (((-1, 0), (0, 1)), ((-1, 1),))
        self.assertEqual(self.fault(1, (HOME, one_way, two_rings)), ("apart", 1))
        self.assertEqual(self.fault(1, (two_rings,)), ("apart", 0))
        self.assertEqual(Web(1, (HOME,)).dealers, (HOME,))

    def test_lost(self):
        self.assertEqual(self.fault(1, ((((0, 0),),),)), ("lost", 0))
        ring = ((((1, 0),),), (((2, 0),),), (((1, 0),),))
        self.assertEqual(self.fault(1, ring), ("lost", 0))
        self.assertEqual(self.fault(1, (HOME, (((2, 0),),), (((1, 0),),))), ("lost", 1))
        self.assertEqual(len(Web(1, ((((1, 0),),), (((2, 0),),), (((-1, 0), (0, 0)),))).dealers), 3)

    def test_the_first_one_of_several_faults(self):
        one_way = (((-1, 1),), ((-1, 1),))
        lost = (((0, 0),),)
        self.assertEqual(self.fault(True, ()), ("cups", -1))
        self.assertEqual(self.fault(1, (lost, one_way, None)), ("dealers", 2))
        self.assertEqual(self.fault(1, (None, one_way, None)), ("dealers", 0))
        self.assertEqual(self.fault(1, (lost, HOME, one_way)), ("apart", 2))
        self.assertEqual(self.fault(1, (HOME, (((1, 0),),), (((2, 0),),))), ("lost", 1))

    def test_huge_and_deep(self):
        self.assertEqual(self.fault(10 ** 60, (HOME,)), ("cups", -1))
        self.assertEqual(self.fault(1, ((((10 ** 60, 0),),),)), ("dealers", 0))
        self.assertEqual(self.fault(1, tuple([HOME] * 40000)), ("dealers", -1))
        self.assertEqual(self.fault(1, ((tuple([(-1, 0)] * 13000),),)), ("dealers", 0))


class WebTest(unittest.TestCase):

    def test_attributes(self):
        self.assertEqual(W.cups, 2)
        self.assertEqual(W.dealers, ((((-1, 1),), ((1, 0),)), (((-2, 1),), ((0, 0),))))

    def test_equality(self):
        self.assertTrue(W == Web(W.cups, W.dealers))
        self.assertFalse(W != Web(W.cups, W.dealers))
        self.assertFalse(W == Web(3, W.dealers))
        self.assertFalse(W == Web(2, W.dealers[::-1]))
        self.assertTrue(W != FREE)
        for thing in odd_things() + [(W.cups, W.dealers)]:
            if thing is not W:
                self.assertFalse(W == thing)
                self.assertTrue(W != thing)

    def test_equality_is_defined_in_the_class(self):
        self.assertIn("__eq__", vars(Web))
        self.assertIn("__init__", vars(Web))

    def test_steps(self):
        self.assertEqual(steps(W), [(0, 0, 0), (0, 1, 0), (1, 0, 0), (1, 1, 0)])
        self.assertEqual(steps(FREE), [(0, 0, 0), (0, 0, 1)])
        for web in made_webs() + [some_web(seed) for seed in range(30)]:
            self.assertEqual(steps(web), sorted(plain_steps(web)))

    def test_returned_lists_are_new(self):
        for call in (lambda: steps(W), lambda: into(W, 1), lambda: leads_on(W, 0)):
            first = call()
            kept = list(first)
            first.clear()
            self.assertEqual(call(), kept)

    def test_door_and_next(self):
        for web in made_webs() + [some_web(seed) for seed in range(10)]:
            for step, (door, after) in plain_steps(web).items():
                self.assertEqual(door_of(web, step), door)
                self.assertEqual(next_of(web, step), after)

    def test_no_step(self):
        more = [(2, 0, 0), (0, 2, 0), (0, 0, 1), (0, -1, 0), (-1, 0, 0), (0, 0), (0, 0, 0, 0), [0, 0, 0],
                (0, 0, True), (False, 0, 0), (0, None, 0), (0, (0,), 0)]
        for thing in odd_things() + more:
            self.assertIs(type(raised(door_of, W, thing)), NoStep)
            self.assertIs(type(raised(next_of, W, thing)), NoStep)

    def test_into(self):
        self.assertEqual(into(W, -1), [(0, 0, 0)])
        self.assertEqual(into(W, -2), [(1, 0, 0)])
        self.assertEqual(into(W, 0), [(1, 1, 0)])
        self.assertEqual(into(Web(3, FREE.dealers), -3), [])
        for web in [some_web(seed) for seed in range(20)]:
            for door in range(-web.cups, len(web.dealers)):
                found = [step for step, one in sorted(plain_steps(web).items()) if one[0] == door]
                self.assertEqual(into(web, door), found)

    def test_no_door(self):
        for thing in odd_things():
            if thing != -1 or type(thing) is not int:
                self.assertIs(type(raised(into, W, thing)), NoDoor)
        for door in (-3, 2):
            self.assertIs(type(raised(into, W, door)), NoDoor)

    def test_leads_on(self):
        self.assertEqual(leads_on(W, 0), [0, 1])
        self.assertEqual(leads_on(W, 1), [0, 1])
        self.assertEqual(leads_on(FREE, 0), [])
        # What lies in a cup is led on no more.
        self.assertEqual(leads_on(Web(2, (HOME, (((-2, 0), (0, 0)),))), 0), [])
        chain = Web(1, ((((1, 0),),), (((2, 0),),), (((-1, 0), (2, 0)),), HOME))
        self.assertEqual([leads_on(chain, house) for house in range(4)], [[1, 2], [2], [2], []])

    def test_no_house(self):
        for thing in odd_things() + [2, -1]:
            self.assertIs(type(raised(leads_on, W, thing)), NoHouse)


if __name__ == "__main__":
    unittest.main()
