"""11.1: webs, loads, moves and prices as texts."""

import unittest

from lastdoors.diaries import many_walks
from lastdoors.errors import NoLoad, NoMoves, NoPrices
from lastdoors.making import by_turns, freely, in_rounds
from lastdoors.plays import are_moves
from lastdoors.texts import load_text, moves_text, prices_text, web_text
from lastdoors.webs import Web
from tests.helpers import FREE, P, W, odd_things, plain_steps, raised, random_play, some_prices, some_web


class WebTextTest(unittest.TestCase):

    def test_by_the_words(self):
        self.assertEqual(web_text(W), "cups 2\nhouse\nc0>1\nh1>0\nhouse\nc1>1\nh0>0\n")
        self.assertEqual(web_text(Web(3, (freely((-3, -1, 0)), in_rounds((-2, 1))))),
                         "cups 3\nhouse\nc2>0 c0>0 h0>0\nhouse\nc1>1 h1>2\nh1>0\nc1>0\n")
        self.assertEqual(web_text(Web(6, (by_turns((-6,)),))), "cups 6\nhouse\nc5>0\n")

    def test_line_by_line(self):
        for seed in range(40):
            web = some_web(seed)
            lines = ["cups " + str(web.cups)]
            for dealer in web.dealers:
                lines.append("house")
                for pairs in dealer:
                    words = []
                    for door, after in pairs:
                        words.append(("h" + str(door) if door >= 0 else "c" + str(-1 - door)) + ">" + str(after))
                    lines.append(" ".join(words))
            self.assertEqual(web_text(web), "\n".join(lines) + "\n")


class LoadTextTest(unittest.TestCase):

    def test_by_the_words(self):
        self.assertEqual(load_text(W, (0, 12)), "0 12")
        self.assertEqual(load_text(FREE, (7,)), "7")
        for many in [10 ** 60 - 1, 10 ** 60, 10 ** 60 + 1, 10 ** 120, 10 ** 120 - 1, 10 ** 121 + 10 ** 60, 0, 1]:
            self.assertEqual(load_text(W, (many, 3)), f"{many} 3")

    def test_no_load(self):
        for thing in [(1,), (1, 2, 3), [1, 2], (1, -1), (1, True), (1, None), None, "1 2", {}] + odd_things():
            self.assertIsInstance(raised(load_text, W, thing), NoLoad)

    def test_numbers_of_any_size(self):
        # Python itself writes no more than 4300 figures at once.
        free = Web(6, (freely((-6, -5, -4, -3, -2, -1)), (((-1, 1), (-1, 2)), ((-2, 0),), ((-3, 0),))))
        many = many_walks(free, 0, {(0, 0, k): 60 for k in range(6)}, (0, 0, 0)) ** 20
        text = load_text(free, (many, 1))
        self.assertGreater(len(text), 5000)
        self.assertEqual(text.split(" ")[1], "1")
        self.assertEqual(figures_back(text.split(" ")[0]), many)
        self.assertEqual(load_text(FREE, (10 ** 6000,)), "1" + "0" * 6000)


def figures_back(text):
    """The number that a text of figures tells, by some of them at a time."""
    number = 0
    for at in range(0, len(text), 500):
        part = text[at:at + 500]
        number = number * 10 ** len(part) + int(part)
    return number


class MovesTextTest(unittest.TestCase):

    def test_by_the_words(self):
        self.assertEqual(moves_text(W, ()), "-")
        self.assertEqual(moves_text(W, ((0, 0),)), "0.0")
        self.assertEqual(moves_text(FREE, ((0, 1), (0, 0), (0, 1))), "0.1 0.0 0.1")

    def test_moves_of_plays(self):
        for seed in range(30):
            web = some_web(seed)
            moves, _ = random_play(seed, web, (2,) * len(web.dealers))
            words = moves_text(web, moves).split(" ")
            self.assertEqual([tuple([int(part) for part in word.split(".")]) for word in words], list(moves))

    def test_no_moves(self):
        wrong = [((0, 1),), ((0, 0), (2, 0)), [(0, 0)], ([0, 0],), ((0, False),), ((True, 0),), None, "-", {}, 0]
        for thing in wrong + odd_things():
            self.assertEqual(isinstance(raised(moves_text, W, thing), NoMoves), not are_moves(W, thing))
        for thing in wrong:
            self.assertIsInstance(raised(moves_text, W, thing), NoMoves)


class PricesTextTest(unittest.TestCase):

    def test_by_the_words(self):
        self.assertEqual(prices_text(W, {}), "")
        self.assertEqual(prices_text(W, P), "0.0.0 1/1\n")
        prices = {(1, 1, 0): (-3, 7), (0, 1, 0): (0, 1), (1, 0, 0): (10 ** 9, 1), (0, 0, 0): (-1, 10 ** 6)}
        self.assertEqual(prices_text(W, prices), "0.0.0 -1/1000000\n0.1.0 0/1\n1.0.0 1000000000/1\n1.1.0 -3/7\n")

    def test_lines_of_all_keys_ascending(self):
        for seed in range(30):
            web = some_web(seed)
            prices = some_prices(seed, web)
            lines = []
            for step in sorted(plain_steps(web)):
                if step in prices:
                    lines.append("%d.%d.%d %d/%d\n" % (step + prices[step]))
            self.assertEqual(prices_text(web, prices), "".join(lines))
            backward = {step: prices[step] for step in reversed(list(prices))}
            self.assertEqual(prices_text(web, backward), prices_text(web, prices))

    def test_no_prices(self):
        for thing in [None, [], {(0, 0, 1): (1, 1)}, {(0, 0, 0): (2, 4)}, {(0, 0, 0): 1}, {(0, 0, 0): (True, 1)},
                      {(0, 0, 0): (10 ** 9 + 1, 1)}, {(0, 0, 0): (1, 10 ** 6 + 1)}, {(0, 0, 0): (1, 0)}, 0, "x"]:
            self.assertIsInstance(raised(prices_text, W, thing), NoPrices)
        for thing in odd_things():
            self.assertIsInstance(raised(prices_text, W, thing), NoPrices)


if __name__ == "__main__":
    unittest.main()
