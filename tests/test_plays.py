"""2.1 to 2.3: moves, plays, what they use, and how they are led."""

import unittest

from lastdoors.errors import NoLoad, NoMoves, TooMany
from lastdoors.making import by_turns, freely
from lastdoors.plays import are_moves, is_play, last_steps, led, played, used
from lastdoors.webs import Web
from tests.helpers import FREE, W, leads_home, made_webs, odd_things, plain_steps, raised, random_play, some_web

NO_LOADS = [(1,), (1, 1, 1), (1, -1), (1, True), (False, 1), [1, 1], (1, None), (1, (1,)), (), {0: 1, 1: 1}]
NO_MOVES = [((0,),), ((0, 0, 0),), ([0, 0],), [(0, 0)], ((2, 0),), ((-1, 0),), ((0, 1),), ((0, -1),),
            ((True, 0),), ((0, False),), ((0, 0), None), ((0, 0), (0, 0), (0, 1)), (0, 0), ((0, (0,)),)]
DONE = (((-1, 0),),)


def first_house(waiting, ends):
    return [house for house, many in enumerate(waiting) if many][0]


def first_step(house, standing):
    return 0


class PlayedTest(unittest.TestCase):

    def test_by_hand(self):
        self.assertEqual(played(W, (1, 1), ((0, 0), (1, 0))), ((0, 0), (1, 1), (1, 1)))
        self.assertEqual(played(W, (2, 0), ((0, 0), (0, 0))), ((0, 1), (0, 0), (1, 0)))
        self.assertEqual(played(W, (2, 0), ((0, 0), (0, 0), (1, 0))), ((0, 0), (0, 1), (1, 1)))
        self.assertEqual(played(FREE, (3,), ((0, 1), (0, 0), (0, 1))), ((0,), (0,), (2, 1)))

    def test_nothing_moved(self):
        self.assertEqual(played(W, (0, 0), ()), ((0, 0), (0, 0), (0, 0)))
        self.assertEqual(played(W, (10 ** 6, 3), ()), ((10 ** 6, 3), (0, 0), (0, 0)))

    def test_a_grain_lacks(self):
        for load, moves in (((0, 0), ((0, 0),)), ((1, 0), ((0, 0), (0, 0))), ((0, 1), ((0, 0),)),
                            ((1, 1), ((0, 0), (1, 0), (1, 0)))):
            self.assertTrue(are_moves(W, moves))
            self.assertIs(type(raised(played, W, load, moves)), NoMoves)
            self.assertFalse(is_play(W, load, moves))

    def test_no_load_ahead_of_no_moves(self):
        for load in odd_things() + NO_LOADS:
            for call in (played, is_play):
                self.assertIs(type(raised(call, W, load, None)), NoLoad)
        for moves in odd_things() + NO_MOVES:
            if moves != ():
                self.assertIs(type(raised(played, W, (9, 9), moves)), NoMoves)

    def test_are_moves(self):
        self.assertIs(are_moves(W, ()), True)
        self.assertIs(are_moves(W, ((0, 0),) * 10), True)
        self.assertIs(are_moves(FREE, ((0, 1), (0, 0))), True)
        for moves in odd_things() + NO_MOVES:
            self.assertIs(are_moves(W, moves), False)
        # The number of a step must be one at the standing at which the dealer is then.
        web = Web(1, ((((-1, 0), (-1, 1)), ((-1, 0),)),))
        self.assertTrue(are_moves(web, ((0, 1), (0, 0), (0, 1))))
        self.assertFalse(are_moves(web, ((0, 1), (0, 1))))

    def test_is_play(self):
        self.assertIs(is_play(W, (1, 1), ((0, 0), (1, 0))), True)
        self.assertIs(is_play(W, (0, 0), ()), True)
        self.assertIs(is_play(W, (1, 0), ()), False)
        self.assertIs(is_play(W, (2, 0), ((0, 0), (0, 0))), False)
        for moves in odd_things() + NO_MOVES:
            self.assertIs(is_play(W, (9, 9), moves), False)
        for seed in range(40):
            web = some_web(seed)
            load = tuple([seed % 3 + house for house in range(len(web.dealers))])
            moves, ends = random_play(seed, web, load)
            self.assertTrue(is_play(web, load, moves))
            self.assertEqual(played(web, load, moves)[:2], ((0,) * len(load), ends))
            self.assertEqual(sum(played(web, load, moves)[2]), sum(load))
            if moves:
                self.assertFalse(is_play(web, load, moves[:-1]))
                self.assertFalse(is_play(web, load, moves + moves[-1:]))

    def test_many_moves(self):
        web = Web(1, (DONE,))
        moves = ((0, 0),) * 30000
        self.assertEqual(played(web, (10 ** 6,), moves), ((970000,), (0,), (30000,)))
        self.assertTrue(is_play(web, (30000,), moves))


class UsedTest(unittest.TestCase):

    def test_used(self):
        self.assertEqual(used(W, ()), {})
        self.assertEqual(used(W, ((0, 0), (0, 0), (0, 0))), {(0, 0, 0): 2, (0, 1, 0): 1})
        self.assertEqual(used(FREE, ((0, 1), (0, 1))), {(0, 0, 1): 2})

    def test_last_steps(self):
        self.assertEqual(last_steps(W, ()), (None, None))
        self.assertEqual(last_steps(W, ((1, 0), (1, 0), (1, 0))), (None, (1, 0, 0)))
        self.assertEqual(last_steps(W, ((0, 0), (1, 0), (0, 0))), ((0, 1, 0), (1, 0, 0)))

    def test_no_moves(self):
        for moves in odd_things() + NO_MOVES:
            self.assertIs(type(raised(used, W, moves)), NoMoves)
            self.assertIs(type(raised(last_steps, W, moves)), NoMoves)

    def test_used_is_new(self):
        moves = ((0, 0), (0, 0))
        used(W, moves).clear()
        self.assertEqual(used(W, moves), {(0, 0, 0): 1, (0, 1, 0): 1})

    def test_the_first_fact(self):
        for seed in range(60):
            web = some_web(seed)
            load = tuple([1 + (seed + house) % 3 for house in range(len(web.dealers))])
            moves = random_play(seed, web, load)[0]
            last = last_steps(web, moves)
            self.assertTrue(leads_home(web, last))
            counts = used(web, moves)
            self.assertEqual(sum(counts.values()), len(moves))
            self.assertTrue(all(step in plain_steps(web) for step in counts))
            for house in range(len(load)):
                taken = sum(many for step, many in counts.items() if step[0] == house)
                self.assertEqual(taken, len([move for move in moves if move[0] == house]))


class LedTest(unittest.TestCase):

    def test_by_hand(self):
        self.assertEqual(led(W, (1, 1), first_house, first_step), ((0, 0), (1, 0)))
        self.assertEqual(led(W, (2, 0), first_house, first_step), ((0, 0), (0, 0), (1, 0)))
        self.assertEqual(led(FREE, (2,), first_house, lambda house, standing: 1), ((0, 1), (0, 1)))

    def test_what_the_functions_are_given(self):
        seen = []

        def order(waiting, ends):
            seen.append((waiting, ends))
            return first_house(waiting, ends)

        def choose(house, standing):
            seen.append((house, standing))
            return 0
        led(W, (2, 0), order, choose)
        self.assertEqual(seen, [((2, 0), (0, 0)), (0, 0), ((1, 0), (1, 0)), (0, 1), ((0, 1), (0, 0)), (1, 0)])

    def test_not_asked_where_no_grain_waits(self):
        def never(*given):
            raise AssertionError(given)
        self.assertEqual(led(W, (0, 0), never, never), ())
        self.assertEqual(led(W, (0, 0), None, None), ())

    def test_plays(self):
        for web in made_webs() + [some_web(seed) for seed in range(20)]:
            load = tuple([2 + house for house in range(len(web.dealers))])

            def last_house(waiting, ends):
                return [house for house, many in enumerate(waiting) if many][-1]
            # A choice by the standing alone may go round for ever: then 30000 moves are too many.
            try:
                moves = led(web, load, last_house, lambda house, standing: 0)
            except TooMany as error:
                self.assertEqual(error.most, 30000)
                continue
            self.assertTrue(is_play(web, load, moves))

    def test_no_load(self):
        for load in odd_things() + NO_LOADS:
            self.assertIs(type(raised(led, W, load, first_house, first_step)), NoLoad)

    def test_functions_that_give_something_else(self):
        for thing in odd_things() + [2, -1, 1, 0.0, {0}]:
            self.assertIs(type(raised(led, W, (0, 1) if thing != 1 else (1, 0),
                                      lambda waiting, ends: thing, first_step)), NoMoves)
            self.assertIs(type(raised(led, W, (1, 1), first_house, lambda house, standing: thing)), NoMoves)
        # At first right, then a house without grains.
        self.assertIs(type(raised(led, W, (1, 1), lambda waiting, ends: 0, first_step)), NoMoves)

    def test_errors_go_on(self):
        class Own(Exception):
            pass

        def bad(*given):
            raise Own()
        self.assertIs(type(raised(led, W, (1, 1), bad, first_step)), Own)
        self.assertIs(type(raised(led, W, (1, 1), first_house, bad)), Own)
        self.assertIs(type(raised(led, W, (1, 1), None, first_step)), TypeError)

    def test_just_30000_moves(self):
        web = Web(1, (DONE,))
        self.assertEqual(led(web, (30000,), first_house, first_step), ((0, 0),) * 30000)
        error = raised(led, web, (30001,), first_house, first_step)
        self.assertIs(type(error), TooMany)
        self.assertEqual(error.most, 30000)

    def test_order_is_not_asked_behind_30000_moves(self):
        asked = []

        def order(waiting, ends):
            asked.append(0)
            return 0
        self.assertIs(type(raised(led, Web(1, (DONE,)), (10 ** 6,), order, first_step)), TooMany)
        self.assertLessEqual(len(asked), 30000)

    def test_never_at_an_end(self):
        web = Web(1, (freely((-1, 0)),))
        self.assertEqual(led(web, (2,), first_house, first_step), ((0, 0), (0, 0)))
        error = raised(led, web, (2,), first_house, lambda house, standing: 1)
        self.assertEqual((type(error), error.most), (TooMany, 30000))
        web = Web(1, (by_turns((0,) * 7 + (-1,)),))
        self.assertEqual(len(led(web, (3750,), first_house, first_step)), 30000)
        self.assertIs(type(raised(led, web, (3751,), first_house, first_step)), TooMany)


if __name__ == "__main__":
    unittest.main()
