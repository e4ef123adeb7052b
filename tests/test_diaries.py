"""8.1, 8.2: walks of one dealer, diaries, and the plays that follow them."""

import random
import unittest
from itertools import product
from math import factorial

from lastdoors.diaries import (are_diaries, counts_of, load_of, many_diaries, many_walks, play_of,
                               some_diaries)
from lastdoors.errors import NoCounts, NoDiaries, NoHouse, NoStep
from lastdoors.making import by_turns, freely, in_rounds, never_ahead
from lastdoors.plays import is_play, played, used
from lastdoors.webs import Web, steps
from tests.helpers import (FREE, W, fixed_web, leads_home, made_webs, odd_things, plain_forests, plain_steps,
                           raised, random_play, some_web)

TURNS = {(0, 0, 0): 1, (0, 1, 0): 1, (1, 0, 0): 1}


def plain_walks(web, house, counts):
    """All walks of a house for counts, gone through one by one."""
    left = {step: counts.get(step, 0) for step in plain_steps(web) if step[0] == house}
    found = []

    def go(standing, walk):
        if not any(left.values()):
            found.append(tuple(walk))
        for number, (_, after) in enumerate(web.dealers[house][standing]):
            step = (house, standing, number)
            if left[step] > 0:
                left[step] -= 1
                go(after, walk + [number])
                left[step] += 1

    go(0, [])
    return found


def last_step(web, house, walk):
    """The last step of a walk, None of an empty one."""
    standing, step = 0, None
    for number in walk:
        step = (house, standing, number)
        standing = web.dealers[house][standing][number][1]
    return step


def plain_diaries(web, counts):
    """All diaries for counts, gone through one by one."""
    walks = [plain_walks(web, house, counts) for house in range(len(web.dealers))]
    found = []
    for diaries in product(*walks):
        chosen = [last_step(web, house, walk) for house, walk in enumerate(diaries)]
        if None not in chosen and leads_home(web, chosen):
            found.append(diaries)
    return found


def walked_counts(seed, web, most):
    """Counts of walks by chance of at most so many steps in each house, which depend on the seed alone."""
    source = random.Random(seed)
    counts = {}
    for house, dealer in enumerate(web.dealers):
        standing = 0
        for _ in range(source.randint(1, most)):
            number = source.randrange(len(dealer[standing]))
            step = (house, standing, number)
            counts[step] = counts.get(step, 0) + 1
            standing = dealer[standing][number][1]
    return counts


def some_walks(seed, web, most):
    """A walk by chance of each house, perhaps empty, which depends on the seed alone."""
    source = random.Random(seed)
    diaries = []
    for dealer in web.dealers:
        standing, walk = 0, []
        for _ in range(source.randint(0, most)):
            walk.append(source.randrange(len(dealer[standing])))
            standing = dealer[standing][walk[-1]][1]
        diaries.append(tuple(walk))
    return tuple(diaries)


def many_by_states(web, house, counts, last):
    """The number of walks, by the numbers of ways to each state of steps taken and standing."""
    own = [step for step in plain_steps(web) if step[0] == house]
    kept = {(tuple([0] * len(own)), 0): 1}
    total = 0
    for _ in range(sum(counts.get(step, 0) for step in own)):
        longer = {}
        total = 0
        for (taken, standing), many in kept.items():
            for at, step in enumerate(own):
                if step[1] == standing and taken[at] < counts.get(step, 0):
                    after = (taken[:at] + (taken[at] + 1,) + taken[at + 1:], plain_steps(web)[step][1])
                    longer[after] = longer.get(after, 0) + many
                    total += many if step == last else 0
        kept = longer
    return total


def dealt_by_chance(seed, web, load, diaries):
    """What waits in the end, and how far each diary is followed, when houses deal in an order by chance."""
    source = random.Random(seed)
    waiting, stands, places = list(load), [0] * len(load), [0] * len(load)
    while True:
        able = [house for house, many in enumerate(waiting) if many > 0 and places[house] < len(diaries[house])]
        if not able:
            return waiting, places
        house = source.choice(able)
        door, after = web.dealers[house][stands[house]][diaries[house][places[house]]]
        waiting[house] -= 1
        stands[house] = after
        places[house] += 1
        if door >= 0:
            waiting[door] += 1


class WalksTest(unittest.TestCase):

    def test_against_all_walks(self):
        told = 0
        for seed in range(120):
            web = some_web(seed, 2, 4, 3)
            counts = walked_counts(seed, web, 8)
            for house in range(len(web.dealers)):
                walks = plain_walks(web, house, counts)
                self.assertGreater(len(walks), 0)
                for last in [step for step in plain_steps(web) if step[0] == house]:
                    many = len([walk for walk in walks if last_step(web, house, walk) == last])
                    self.assertEqual(many_walks(web, house, counts, last), many, (seed, last))
                    told = max(told, many)
        self.assertGreater(told, 20)

    def test_counts_that_no_walk_has(self):
        source = random.Random(8)
        for seed in range(60):
            web = some_web(seed, 2, 3, 3)
            counts = {step: source.randint(0, 2) for step in steps(web)}
            for house in range(len(web.dealers)):
                walks = plain_walks(web, house, counts)
                for last in [step for step in plain_steps(web) if step[0] == house]:
                    many = len([walk for walk in walks if last_step(web, house, walk) == last])
                    self.assertEqual(many_walks(web, house, counts, last), many, (seed, last))

    def test_parts_that_are_not_joined(self):
        # What comes to each standing goes on from it; but standings 1 and 2 are not come to from 0.
        web = Web(1, ((((-1, 0), (-1, 1)), ((-1, 0), (-1, 2)), ((-1, 1),)),))
        self.assertEqual(many_walks(web, 0, {(0, 0, 0): 1, (0, 1, 1): 2, (0, 2, 0): 2}, (0, 0, 0)), 0)
        self.assertEqual(many_walks(web, 0, {(0, 0, 0): 1}, (0, 0, 0)), 1)
        joined = {(0, 0, 1): 1, (0, 1, 0): 1, (0, 1, 1): 2, (0, 2, 0): 2}
        self.assertEqual(many_walks(web, 0, joined, (0, 1, 0)), 1)
        self.assertEqual(many_diaries(web, {(0, 0, 0): 1, (0, 1, 1): 2, (0, 2, 0): 2}), 0)

    def test_by_turns(self):
        web = Web(2, (by_turns((-1, -2, -1, 0)),))
        self.assertEqual(many_walks(web, 0, {(0, k, 0): 60 for k in range(4)}, (0, 3, 0)), 1)
        self.assertEqual(many_walks(web, 0, {(0, k, 0): 60 for k in range(4)}, (0, 2, 0)), 0)
        self.assertEqual(many_walks(web, 0, {(0, 0, 0): 60, (0, 1, 0): 60, (0, 2, 0): 59, (0, 3, 0): 59}, (0, 1, 0)), 1)
        self.assertEqual(many_walks(web, 0, {(0, 0, 0): 60, (0, 1, 0): 59, (0, 2, 0): 60}, (0, 0, 0)), 0)

    def test_a_house_none_of_whose_steps_is_counted(self):
        self.assertEqual(many_walks(W, 1, {(0, 0, 0): 1}, (1, 0, 0)), 0)
        self.assertEqual(many_walks(W, 1, {(1, 0, 0): 0}, (1, 0, 0)), 0)
        self.assertEqual(many_walks(W, 0, {}, (0, 0, 0)), 0)
        self.assertEqual(many_diaries(W, {(0, 0, 0): 1}), 0)
        self.assertIsNone(some_diaries(W, {(0, 0, 0): 1}))
        self.assertIs(are_diaries(W, {(0, 0, 0): 1}, ((0,), ())), False)

    def test_great_counts_of_dealers_without_rings(self):
        free = Web(6, (freely((-6, -5, -4, -3, -2, -1)),))
        counts = {(0, 0, k): 60 for k in range(6)}
        self.assertEqual(many_walks(free, 0, counts, (0, 0, 3)),
                         factorial(359) // (factorial(60) ** 5 * factorial(59)))
        self.assertEqual(many_diaries(free, counts), factorial(360) // factorial(60) ** 6)

    def test_great_counts_against_states(self):
        web = Web(2, ((((-2, 0), (-1, 1)), ((-1, 0),)), never_ahead(-1, -2, 1)))
        counts = {(0, 0, 0): 60, (0, 0, 1): 60, (0, 1, 0): 60}
        for last in counts:
            self.assertEqual(many_walks(web, 0, counts, last), many_by_states(web, 0, counts, last))
        rounds = {step: 40 for step in steps(web) if step[0] == 1}
        for last in rounds:
            self.assertEqual(many_walks(web, 1, rounds, last), many_by_states(web, 1, rounds, last))
        ahead = Web(2, (in_rounds((-2, -1)),))
        some = {(0, 0, 0): 30, (0, 0, 1): 25, (0, 1, 0): 30, (0, 2, 0): 25}
        for last in some:
            self.assertEqual(many_walks(ahead, 0, some, last), many_by_states(ahead, 0, some, last))

    def test_the_greatest_counts_of_the_greatest_web_at_once(self):
        dealer = tuple([tuple(sorted([((k + j) % 3 - 2, (k + j) % 8) for j in range(6)])) for k in range(8)])
        web = Web(2, (dealer,) * 8)
        counts = {step: 60 for step in steps(web)}
        ways = [many_walks(web, 0, counts, step) for step in steps(web) if step[0] == 0]
        self.assertGreater(max(ways), 10 ** 1000)
        self.assertGreater(many_diaries(web, counts), 10 ** 8000)
        found = some_diaries(web, counts)
        self.assertIs(are_diaries(web, counts, found), True)
        self.assertEqual([len(walk) for walk in found], [2880] * 8)

    def test_errors_in_their_order(self):
        counts = {(0, 0, 0): 1}
        for house in [2, -1, None, True, False, "0", (0,), 10 ** 60, [0]]:
            self.assertIsInstance(raised(many_walks, W, house, None, None), NoHouse)
        for step in [None, (0, 0), (0, 0, 1), (0, 2, 0), (1, 0, 0), (2, 0, 0), (0, 0, False), [0, 0, 0], "x"]:
            self.assertIsInstance(raised(many_walks, W, 0, counts, step), NoStep)
            self.assertIsInstance(raised(many_walks, W, 0, {(0, 0, 0): 61}, step), NoCounts)
        self.assertIsInstance(raised(many_walks, W, 1, counts, (0, 0, 0)), NoStep)
        self.assertIsNone(raised(many_walks, W, 0, counts, (0, 1, 0)))
        for thing in odd_things():
            error = raised(many_walks, W, 0, thing, (0, 0, 0))
            self.assertTrue(error is None or isinstance(error, NoCounts))

    def test_counts(self):
        def calls(counts):
            return [raised(many_walks, W, 0, counts, (0, 0, 0)), raised(many_diaries, W, counts),
                    raised(some_diaries, W, counts), raised(are_diaries, W, counts, ((0,), (0,))),
                    raised(load_of, W, counts)]
        for right in [{}, {(0, 0, 0): 0}, {(0, 0, 0): 60}, {step: 60 for step in steps(W)}]:
            self.assertEqual(calls(right), [None] * 5)
        for wrong in [{(0, 0, 0): 61}, {(0, 0, 0): -1}, {(0, 0, 0): True}, {(0, 0, 0): False}, {(0, 0, 0): None},
                      {(0, 0, 0): "1"}, {(0, 0, 0): (1, 1)}, {(0, 0, 1): 1}, {(0, 2, 0): 0}, {(2, 0, 0): 0},
                      {(0, 0): 1}, {0: 1}, {"": 0}, {None: 0}, {(-1, 0, 0): 0}, {(0, 0, 0): 1, (9, 9, 9): 1},
                      None, [], (), [((0, 0, 0), 1)], 0, True, "x", {(0, 0, 0): 10 ** 60}]:
            for error in calls(wrong):
                self.assertIsInstance(error, NoCounts, wrong)


class DiariesTest(unittest.TestCase):

    def test_against_all_diaries(self):
        none, most = 0, 0
        for seed in range(150):
            web = some_web(seed, 3, 3, 3)
            counts = walked_counts(seed, web, 5)
            diaries = plain_diaries(web, counts)
            self.assertEqual(many_diaries(web, counts), len(diaries), seed)
            found = some_diaries(web, counts)
            if found is None:
                none += 1
                self.assertEqual(diaries, [])
            else:
                self.assertIn(found, diaries)
            most = max(most, len(diaries))
            for told in diaries[:5]:
                self.assertIs(are_diaries(web, counts, told), True)
        self.assertGreater(none, 10)
        self.assertGreater(most, 30)

    def test_counts_by_chance(self):
        source = random.Random(5)
        for seed in range(80):
            web = some_web(seed, 2, 2, 3)
            counts = {step: source.randint(0, 2) for step in steps(web)}
            diaries = plain_diaries(web, counts)
            self.assertEqual(many_diaries(web, counts), len(diaries), seed)
            self.assertEqual(some_diaries(web, counts) is None, diaries == [], seed)

    def test_the_sum_over_all_forests(self):
        for seed in range(25):
            web = some_web(seed, 3, 3, 2)
            counts = {step: 60 for step in steps(web)}
            for extra in (walked_counts(seed, web, 40), counts):
                total = 0
                for forest in plain_forests(web):
                    product_of_walks = 1
                    for house, step in enumerate(forest):
                        product_of_walks *= many_walks(web, house, extra, step)
                    total += product_of_walks
                self.assertEqual(many_diaries(web, extra), total, seed)

    def test_some_diaries_of_great_counts(self):
        for seed in range(40):
            web = some_web(seed, 4, 5, 4)
            counts = {step: min(many, 60) for step, many in walked_counts(seed, web, 400).items()}
            found = some_diaries(web, counts)
            self.assertEqual(found is None, many_diaries(web, counts) == 0)
            if found is not None:
                self.assertIs(are_diaries(web, counts, found), True)

    def test_last_steps_that_lead_on_in_a_ring(self):
        web = Web(1, (freely((-1, 1)), freely((-1, 0))))
        ring = {(0, 0, 1): 1, (1, 0, 1): 1}
        self.assertEqual(many_walks(web, 0, ring, (0, 0, 1)), 1)
        self.assertEqual(many_diaries(web, ring), 0)
        self.assertIsNone(some_diaries(web, ring))
        self.assertIs(are_diaries(web, ring, ((1,), (1,))), False)

    def test_the_ninth_fact(self):
        for seed in range(40):
            web = some_web(seed, 3, 3, 3)
            load = tuple([random.Random(seed).randint(1, 3)] * len(web.dealers))
            moves, _ = random_play(seed, web, load)
            counts = used(web, moves)
            if max(counts.values()) > 60:
                continue
            told = tuple([tuple([number for house, number in moves if house == own])
                          for own in range(len(web.dealers))])
            self.assertEqual(load_of(web, counts), load)
            self.assertIs(are_diaries(web, counts, told), True)
            play = play_of(web, some_diaries(web, counts))
            self.assertIs(is_play(web, load, play), True)
            self.assertEqual(used(web, play), counts)

    def test_diaries_with_one_thing_changed(self):
        for seed in range(30):
            web = some_web(seed, 3, 3, 3)
            counts = walked_counts(seed, web, 6)
            told = some_diaries(web, counts)
            if told is None:
                continue
            right = set(plain_diaries(web, counts))
            for changed in self.changes(told):
                self.assertIs(are_diaries(web, counts, changed), self.is_in(changed, right), (seed, changed))

    def changes(self, told):
        for house, walk in enumerate(told):
            def put(other):
                return told[:house] + (other,) + told[house + 1:]
            yield put(())
            yield put(list(walk))
            yield put(None)
            yield put(walk + (0,))
            yield told[:house] + told[house + 1:]
            for at in range(len(walk)):
                yield put(walk[:at] + walk[at + 1:])
                yield put(walk[:at] + (walk[at] + 1,) + walk[at + 1:])
                yield put(walk[:at] + (-1,) + walk[at + 1:])
                yield put(walk[:at] + (bool(walk[at]),) + walk[at + 1:])
                yield put(walk[:at] + (None,) + walk[at + 1:])
                yield put(walk[:at] + (walk[at],) + walk[at:])
                for other in range(at):
                    yield put(walk[:other] + (walk[at],) + walk[other + 1:at] + (walk[other],) + walk[at + 1:])
        yield list(told)
        yield told + ((),)
        yield told + ((0,),)
        yield tuple(reversed(told))

    def is_in(self, thing, right):
        """Whether a thing is among tuples of tuples of integers, flags being none."""
        if not isinstance(thing, tuple) or not all(isinstance(walk, tuple) for walk in thing):
            return False
        if not all(type(number) is int for walk in thing for number in walk):
            return False
        return thing in right

    def test_other_things_are_no_diaries(self):
        self.assertIs(are_diaries(W, TURNS, ((0, 0), (0,))), True)
        for thing in odd_things():
            self.assertIs(are_diaries(W, TURNS, thing), False)
            self.assertIs(are_diaries(W, TURNS, ((0, 0), thing)), False)
            if thing is not False:
                self.assertIs(are_diaries(W, TURNS, ((0, thing), (0,))), False)
        self.assertIs(are_diaries(W, {}, None), False)
        self.assertIs(are_diaries(W, {}, ((), ())), False)


class CountsTest(unittest.TestCase):

    def test_load_of(self):
        self.assertEqual(load_of(W, {}), (0, 0))
        self.assertEqual(load_of(W, {(0, 1, 0): 3}), (3, -3))
        self.assertEqual(load_of(W, {(0, 0, 0): 60, (1, 1, 0): 60}), (0, 60))
        inward = Web(1, (freely((-1, 0)),))
        self.assertEqual(load_of(inward, {(0, 0, 1): 7, (0, 0, 0): 2}), (2,))
        source = random.Random(4)
        for seed in range(40):
            web = some_web(seed)
            counts = {step: source.randint(0, 60) for step in steps(web) if source.random() < 0.7}
            load = [0] * len(web.dealers)
            for step, many in counts.items():
                load[step[0]] += many
                door = plain_steps(web)[step][0]
                if door >= 0:
                    load[door] -= many
            self.assertEqual(load_of(web, counts), tuple(load))

    def test_counts_of(self):
        self.assertEqual(counts_of(W, ((), ())), {step: 0 for step in steps(W)})
        self.assertEqual(counts_of(W, ((0, 0, 0), (0,))),
                         {(0, 0, 0): 2, (0, 1, 0): 1, (1, 0, 0): 1, (1, 1, 0): 0})
        for seed in range(40):
            web = some_web(seed)
            diaries = some_walks(seed, web, 30)
            counts = counts_of(web, diaries)
            self.assertEqual(sorted(counts), steps(web))
            self.assertEqual(sum(counts.values()), sum(len(walk) for walk in diaries))
            moves = tuple([(house, number) for house, walk in enumerate(diaries) for number in walk])
            self.assertEqual({step: many for step, many in counts.items() if many}, used(web, moves))

    def test_walks_of_2000_numbers_and_of_2001(self):
        self.assertEqual(counts_of(FREE, ((0, 1) * 1000,)), {(0, 0, 0): 1000, (0, 0, 1): 1000})
        self.assertEqual(len(play_of(FREE, ((0, 1) * 1000,))), 2000)
        for call in (counts_of, play_of):
            self.assertIsInstance(raised(call, FREE, ((0,) * 2001,)), NoDiaries)
            self.assertIsInstance(raised(call, W, ((0,) * 2001, ())), NoDiaries)
            self.assertIsInstance(raised(call, W, ((), (0,) * 2001)), NoDiaries)
            self.assertIsNone(raised(call, W, ((0,) * 2000, (0,) * 2000)))

    def test_what_is_no_diaries(self):
        for call in (counts_of, play_of):
            for wrong in [((0,),), ((0,), (0,), (0,)), [(0,), (0,)], ([0], (0,)), ((1,), (0,)), ((-1,), (0,)),
                          ((False,), (0,)), ((0, 0, True), (0,)), (None, (0,)), ((0,), None), None, (), ((None,), ()),
                          ("0", ()), (0, 0), {0: (), 1: ()}]:
                self.assertIsInstance(raised(call, W, wrong), NoDiaries, wrong)
            for thing in odd_things():
                self.assertIsInstance(raised(call, W, thing), NoDiaries)

    def test_play_of_against_grain_by_grain(self):
        told, barred, stopped = 0, 0, 0
        for seed in range(400):
            web = some_web(seed % 100, 3, 3, 3)
            diaries = some_walks(seed, web, 4)
            load = [len(walk) for walk in diaries]
            for step, many in counts_of(web, diaries).items():
                door = plain_steps(web)[step][0]
                if door >= 0:
                    load[door] -= many
            play = play_of(web, diaries)
            if min(load) < 0:
                barred += 1
                self.assertIsNone(play)
                continue
            waiting, places = dealt_by_chance(seed, web, load, diaries)
            if places != [len(walk) for walk in diaries]:
                stopped += 1
                self.assertIsNone(play, (seed, diaries))
                continue
            told += 1
            self.assertEqual(waiting, [0] * len(load))
            self.assertIs(is_play(web, tuple(load), play), True)
            for house, walk in enumerate(diaries):
                self.assertEqual(tuple([number for own, number in play if own == house]), walk)
        self.assertGreater(min(told, barred, stopped), 10)

    def test_play_of_edges(self):
        self.assertEqual(play_of(W, ((), ())), ())
        self.assertEqual(play_of(W, ((0,), ())), ((0, 0),))
        # More comes in than the walk of the second house has steps for.
        self.assertIsNone(play_of(W, ((0, 0), ())))
        # Two houses that only hand on to one another what neither has.
        ring = Web(1, (freely((-1, 1)), freely((-1, 0))))
        self.assertIsNone(play_of(ring, ((1,), (1,))))
        self.assertEqual(len(play_of(ring, ((1,), (1, 0)))), 3)
        self.assertIsNone(play_of(ring, ((1, 1), (1,))))
        self.assertEqual(played(W, (1, 0), play_of(W, ((0,), ()))), ((0, 0), (1, 0), (1, 0)))

    def test_great_diaries_are_played(self):
        for web in made_webs() + [fixed_web(seed) for seed in range(10)]:
            diaries = some_walks(3, web, 2000)
            play = play_of(web, diaries)
            if play is not None:
                self.assertEqual(len(play), sum([len(walk) for walk in diaries]))


if __name__ == "__main__":
    unittest.main()
