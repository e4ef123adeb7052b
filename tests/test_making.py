"""1.3: dealers that are made of doors."""

import unittest

from lastdoors.errors import NoDoors, NoNumber
from lastdoors.making import by_turns, freely, in_rounds, never_ahead
from lastdoors.webs import Web
from tests.helpers import made_webs, odd_things, raised

WRONG = [(), (-7,), (8,), (0, True), (False,), (0, None), [0], (0, 0, 0, 0, 0, 0, 0, 0, 0), ((0,),), ("0",)]


class MakingTest(unittest.TestCase):

    def test_by_turns(self):
        self.assertEqual(by_turns((-1,)), (((-1, 0),),))
        self.assertEqual(by_turns((-1, 1, -1)), (((-1, 1),), ((1, 2),), ((-1, 0),)))
        self.assertEqual(by_turns((-6, 7, 7, 0, 0, 0, 0, -6))[7], ((-6, 0),))
        self.assertEqual(len(by_turns((7,) * 8)), 8)

    def test_in_rounds(self):
        self.assertEqual(in_rounds((-1,)), (((-1, 0),),))
        self.assertEqual(in_rounds((-1, 3)), (((-1, 1), (3, 2)), ((3, 0),), ((-1, 0),)))
        three = in_rounds((-6, 0, 7))
        # The lots are (), (0,), (1,), (2,), (0, 1), (0, 2), (1, 2).
        self.assertEqual(three, (
            ((-6, 1), (0, 2), (7, 3)),
            ((0, 4), (7, 5)), ((-6, 4), (7, 6)), ((-6, 5), (0, 6)),
            ((7, 0),), ((0, 0),), ((-6, 0),)))

    def test_freely(self):
        self.assertEqual(freely((-1,)), (((-1, 0),),))
        self.assertEqual(freely((-2, -1)), (((-2, 0), (-1, 0)),))
        self.assertEqual(freely((-6, -5, -4, 0, 6, 7)), (tuple([(k, 0) for k in (-6, -5, -4, 0, 6, 7)]),))

    def test_never_ahead(self):
        self.assertEqual(never_ahead(-1, 1, 1), (((-1, 1), (1, 2)), ((1, 0),), ((-1, 0),)))
        self.assertEqual(never_ahead(1, -1, 1), (((-1, 2), (1, 1)), ((-1, 0),), ((1, 0),)))
        self.assertEqual(never_ahead(-6, 7, 2), (
            ((-6, 1), (7, 2)),
            ((-6, 3), (7, 0)), ((-6, 0), (7, 4)),
            ((7, 1),), ((-6, 2),)))
        self.assertEqual(len(never_ahead(0, 1, 3)), 7)

    def test_never_ahead_keeps_the_difference(self):
        for most in (1, 2, 3):
            dealer = never_ahead(-1, -2, most)
            leads = {0: 0}
            for k in range(1, most + 1):
                leads[2 * k - 1], leads[2 * k] = k, -k
            for standing, pairs in enumerate(dealer):
                told = {door: leads[after] - leads[standing] for door, after in pairs}
                doors = [door for door, more in ((-1, 1), (-2, -1)) if abs(leads[standing] + more) <= most]
                self.assertEqual(told, {door: {-1: 1, -2: -1}[door] for door in doors})

    def test_they_make_webs(self):
        self.assertEqual(len(made_webs()), 6)
        doors = tuple(range(-1, 2))
        self.assertEqual(len(Web(1, (in_rounds(doors), freely((0, 1)))).dealers), 2)

    def test_no_doors(self):
        for doors in odd_things() + WRONG:
            # Two of the odd things are doors, but not in ascending order.
            if doors not in ((0, 0, -1), (-1, 0, 0)):
                self.assertIs(type(raised(by_turns, doors)), NoDoors)
            self.assertIs(type(raised(in_rounds, doors)), NoDoors)
            self.assertIs(type(raised(freely, doors)), NoDoors)
        for doors in ((1, 0), (0, 0), (-1, -2)):
            self.assertIs(type(raised(in_rounds, doors)), NoDoors)
            self.assertIs(type(raised(freely, doors)), NoDoors)
        self.assertIs(type(raised(in_rounds, (0, 1, 2, 3))), NoDoors)
        self.assertIs(type(raised(freely, (0, 1, 2, 3, 4, 5, 6))), NoDoors)

    def test_never_ahead_of_no_doors(self):
        for door in odd_things() + [-7, 8]:
            if door == -1 and type(door) is int:
                continue
            self.assertIs(type(raised(never_ahead, door, 1, None)), NoDoors)
            self.assertIs(type(raised(never_ahead, 1, door, None)), NoDoors)
        self.assertIs(type(raised(never_ahead, 1, 1, 1)), NoDoors)

    def test_never_ahead_of_no_number(self):
        for most in odd_things() + [0, 4, -1]:
            self.assertIs(type(raised(never_ahead, 1, 0, most)), NoNumber)


if __name__ == "__main__":
    unittest.main()
