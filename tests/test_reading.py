"""11.2: texts that are read back, and what is wrong in them."""

import random
import re
import unittest

from lastdoors.errors import BadText, BadWeb, DoorError
from lastdoors.making import by_turns
from lastdoors.plays import are_moves
from lastdoors.reading import read_load, read_moves, read_prices, read_web
from lastdoors.texts import load_text, moves_text, prices_text, web_text
from lastdoors.webs import Web
from tests.helpers import FREE, P, W, made_webs, odd_things, plain_steps, raised, random_play, some_prices, some_web

NUMBER = "(?:0|[1-9][0-9]{0,8})"
LONG = "(?:0|[1-9][0-9]{0,59})"
STEP = f"[hc]{NUMBER}>{NUMBER}"
CUPS_LINE = re.compile(f"cups {NUMBER}", re.ASCII)
PAIRS_LINE = re.compile(f"{STEP}(?: {STEP})*", re.ASCII)
PRICE_LINE = re.compile(rf"({LONG})\.({LONG})\.({LONG}) (-?)({LONG})/({LONG})", re.ASCII)
W_TEXT = "cups 2\nhouse\nc0>1\nh1>0\nhouse\nc1>1\nh0>0\n"


def told_error(call, *given):
    """The kind of an error and what it keeps, or the result in a list."""
    try:
        return [call(*given)]
    except DoorError as error:
        return type(error), vars(error)


def plain_web(text):
    """What read_web has to tell of a string, by patterns of lines."""
    lines = text.split("\n")
    closed, rest = lines[:-1], lines[-1]
    houses = []
    for at, line in enumerate(closed):
        if at == 0:
            right = CUPS_LINE.fullmatch(line)
        elif line == "house":
            right = True
            houses.append([])
        else:
            right = houses and PAIRS_LINE.fullmatch(line)
            if right:
                houses[-1].append(tuple([plain_pair(word) for word in line.split()]))
        if not right:
            return BadText, {"line": at + 1}
    if rest or not houses:
        return BadText, {"line": len(closed) + 1}
    return told_error(Web, int(closed[0][5:]), tuple([tuple(rows) for rows in houses]))


def plain_pair(word):
    door, after = word.split(">")
    number = int(door[1:])
    return (number if door[0] == "h" else -1 - number), int(after)


def plain_prices(web, text):
    """What read_prices has to tell of a string, by a pattern of lines."""
    lines = text.split("\n")
    found, ahead = {}, None
    for at, line in enumerate(lines[:-1]):
        match = PRICE_LINE.fullmatch(line)
        if not match:
            return BadText, {"line": at + 1}
        step = tuple([int(part) for part in match.groups()[:3]])
        top, bottom = int(match[5]), int(match[6])
        if match[4] and top == 0 or step not in plain_steps(web) or ahead is not None and step <= ahead:
            return BadText, {"line": at + 1}
        if not (1 <= bottom <= 10 ** 6 and top <= 10 ** 9 and gcd(top, bottom) == 1):
            return BadText, {"line": at + 1}
        found[step] = (-top if match[4] else top, bottom)
        ahead = step
    if lines[-1]:
        return BadText, {"line": len(lines)}
    return [found]


def gcd(one, other):
    while other:
        one, other = other, one % other
    return one


def changed_texts(source, text, signs):
    """Texts with some sign put in, taken out or written over, and with lines changed."""
    for at in range(len(text) + 1):
        sign = source.choice(signs)
        yield text[:at] + sign + text[at:]
        if at < len(text):
            yield text[:at] + text[at + 1:]
            yield text[:at] + sign + text[at + 1:]
            yield text[:at] + text[at] + text[at:]
    lines = text.split("\n")
    for at in range(len(lines)):
        yield "\n".join(lines[:at] + lines[at + 1:])
        yield "\n".join(lines[:at] + [lines[at]] + lines[at:])
        yield "\n".join(lines[:at] + [""] + lines[at:])
        yield "\n".join(lines[:at] + [lines[at] + " "] + lines[at + 1:])
        yield "\n".join(lines[:at] + [" " + lines[at]] + lines[at + 1:])
        yield "\n".join(lines[:at] + [lines[at].replace(" ", "  ")] + lines[at + 1:])
        yield "\n".join(lines[:at] + [lines[at].replace(" ", "\t")] + lines[at + 1:])
        other = source.randrange(len(lines))
        swapped = list(lines)
        swapped[at], swapped[other] = swapped[other], swapped[at]
        yield "\n".join(swapped)


class ReadWebTest(unittest.TestCase):

    def test_texts_read_back(self):
        for web in made_webs() + [some_web(seed, 8, 8, 6) for seed in range(40)]:
            self.assertEqual(read_web(web_text(web)), web)
        self.assertEqual(read_web(W_TEXT), W)

    def test_changed_texts(self):
        source = random.Random(1)
        kinds = {}
        for seed in range(25):
            text = web_text(some_web(seed, 3, 3, 2))
            for changed in changed_texts(source, text, "0123456789ch>-. |\n\tuspoe+"):
                want = plain_web(changed)
                found = told_error(read_web, changed)
                self.assertEqual(found, want, changed)
                kinds[want[0] if isinstance(want, tuple) else Web] = True
        self.assertEqual(len(kinds), 3)

    def line(self, text):
        error = raised(read_web, text)
        self.assertIsInstance(error, BadText, text)
        return error.line

    def test_the_lines_that_are_told(self):
        self.assertEqual(self.line(""), 1)
        self.assertEqual(self.line("\n"), 1)
        self.assertEqual(self.line("cups 2"), 1)
        self.assertEqual(self.line("cups 2\n"), 2)
        self.assertEqual(self.line("cups 2\nhouse"), 2)
        self.assertEqual(self.line("house\nc0>0\n"), 1)
        self.assertEqual(self.line("cups 1\nc0>0\nhouse\n"), 2)
        self.assertEqual(self.line("cups 1\ncups 1\nhouse\nc0>0\n"), 2)
        self.assertEqual(self.line("cups 1\nhouse\nc0>0\ncups 1\n"), 4)
        self.assertEqual(self.line("cups 1\nhouse\nc0>0"), 3)
        self.assertEqual(self.line("cups 1\nhouse\nc0>0\n\n"), 4)
        self.assertEqual(self.line("\ncups 1\nhouse\nc0>0\n"), 1)
        self.assertEqual(self.line("cups 1\nhouse\n\nc0>0\n"), 3)
        self.assertEqual(self.line("cups 1\nhouse\nc0>0\n "), 4)
        self.assertEqual(self.line("cups 1\nhouse\nc0>0\nhouse"), 4)
        # A wrong line is told ahead of what stands behind the last line feed, and the first one of two.
        self.assertEqual(self.line("cups 1\nhouse\nx\nc0>0"), 3)
        self.assertEqual(self.line("cups 1\nhouses\nx\n"), 2)

    def test_forms_of_lines(self):
        for line in ["cups 02", "cups 00", "cups -1", "cups -0", "cups +1", "cups  1", "cups 1 ", " cups 1", "cups", "Cups 1",
                     "cups\t1", "cups 1\t", "cups 1234567890", "cups 1.0", "cups ", "cups 1 1", "cups \u0661",
                     "cups \u00b2", "cups 1\r"]:
            self.assertEqual(self.line(line + "\nhouse\nc0>0\n"), 1, line)
        for line in ["c0>00", "c00>0", "c0 >0", "c0> 0", "c0>0 ", " c0>0", "c0>0  c1>0", "c0", "0>0", ">", "c>0", "c0>",
                     "h-1>0", "c0>-0", "x0>0", "C0>0", "c0>0>0", "cc0>0", "c0>0,c1>0", "c0>0\tc1>0", "-1>0",
                     "c1234567890>0", "c0>1234567890", "h\u0661>0", "c0>\u00b2", "house ", " house", "houses", "-", "c0>0\r"]:
            self.assertEqual(self.line("cups 2\nhouse\n" + line + "\n"), 3, line)

    def test_figures(self):
        self.assertEqual(told_error(read_web, "cups 123456789\nhouse\nc0>0\n"), (BadWeb, {"part": "cups", "at": -1}))
        for line in ["c123456789>0", "h123456789>0", "c0>123456789"]:
            self.assertEqual(told_error(read_web, f"cups 2\nhouse\nc0>0\nhouse\n{line}\n"),
                             (BadWeb, {"part": "dealers", "at": 1}))

    def test_then_bad_web(self):
        for text, part, at in [
            ("cups 0\nhouse\nc0>0\n", "cups", -1), ("cups 7\nhouse\nc0>0\n", "cups", -1),
            ("cups 2\nhouse\n", "dealers", 0), ("cups 2\nhouse\nc0>0\nhouse\n", "dealers", 1),
            ("cups 2\nhouse\nhouse\nc0>0\n", "dealers", 0), ("cups 2\n" + "house\nc0>0\n" * 9, "dealers", -1),
            ("cups 2\nhouse\n" + "c0>0\n" * 9, "dealers", 0), ("cups 2\nhouse\nc0>0 c0>0\n", "dealers", 0),
            ("cups 2\nhouse\nc0>0 c1>0\n", "dealers", 0), ("cups 2\nhouse\nc2>0\n", "dealers", 0),
            ("cups 2\nhouse\nc0>1\n", "dealers", 0), ("cups 2\nhouse\nc0>0\nc0>1\n", "apart", 0),
            ("cups 2\nhouse\nh0>0\n", "lost", 0), ("cups 2\nhouse\nc0>0\nhouse\nh1>0\n", "lost", 1),
            ("cups 6\nhouse\n" + " ".join([f"c{5 - k}>0" for k in range(6)]) + " h0>0\n", "dealers", 0),
        ]:
            self.assertEqual(told_error(read_web, text), (BadWeb, {"part": part, "at": at}), text)

    def test_what_is_no_string(self):
        for thing in odd_things():
            if not isinstance(thing, str):
                self.assertEqual(self.line(thing), 0)


class ReadLoadTest(unittest.TestCase):

    def test_texts_read_back(self):
        for load in [(0, 0), (1, 20), (10 ** 59, 10 ** 60 - 1)]:
            self.assertEqual(read_load(W, load_text(W, load)), load)
        self.assertEqual(read_load(FREE, "7"), (7,))

    def test_wrong_texts(self):
        for text in ["", " ", "1", "1 2 3", "1  2", " 1 2", "1 2 ", "1 2\n", "1\t2", "01 2", "1 00", "-1 2", "1 -0", "+1 2",
                     "1 x", "1,2", "1.2", "1 2.0", "\u0661 2", "1 \u00b2", "1 1" + "0" * 60, "-", "1 2\r", "1\n2"]:
            error = raised(read_load, W, text)
            self.assertIsInstance(error, BadText, text)
            self.assertEqual(error.line, 1)
        self.assertEqual(read_load(W, "1 1" + "0" * 59), (1, 10 ** 59))

    def test_what_is_no_string(self):
        for thing in odd_things():
            error = raised(read_load, W, thing)
            self.assertIsInstance(error, BadText)
            self.assertEqual(error.line, 1 if isinstance(thing, str) else 0)

    def test_changed_texts(self):
        source = random.Random(2)
        form = re.compile(f"{LONG} {LONG} {LONG}", re.ASCII)
        web = Web(1, (by_turns((-1,)),) * 3)
        for text in ["0 12 305", "7 0 0", "10 " + "9" * 59 + " 1"]:
            for changed in changed_texts(source, text, "0123456789 -.\n\tx"):
                if form.fullmatch(changed):
                    self.assertEqual(read_load(web, changed), tuple([int(word) for word in changed.split()]))
                else:
                    self.assertEqual(told_error(read_load, web, changed), (BadText, {"line": 1}), changed)


class ReadMovesTest(unittest.TestCase):

    def test_texts_read_back(self):
        self.assertEqual(read_moves(W, "-"), ())
        for seed in range(30):
            web = some_web(seed)
            moves, _ = random_play(seed, web, (2,) * len(web.dealers))
            self.assertEqual(read_moves(web, moves_text(web, moves)), moves)

    def test_wrong_texts(self):
        for text in ["", " ", "0", "0.", ".0", "0.0.0", "0.0 ", " 0.0", "0.0  0.0", "0.0\n", "-\n", "--", "- 0.0", "0.0 -",
                     "00.0", "0.00", "-0.0", "0.-0", "0,0", "0.1", "2.0", "0.0 2.0", "0.0\t0.0", "\u0660.0", "0.0|0.0",
                     "0.1" + "0" * 60, "0.1" + "0" * 59]:
            error = raised(read_moves, W, text)
            self.assertIsInstance(error, BadText, text)
            self.assertEqual(error.line, 1)
        self.assertEqual(read_moves(FREE, "0.1 0.0"), ((0, 1), (0, 0)))

    def test_numbers_are_those_at_the_standing(self):
        web = Web(1, ((((-1, 0), (-1, 1)), ((-1, 0),)),))
        self.assertEqual(read_moves(web, "0.1 0.0 0.1"), ((0, 1), (0, 0), (0, 1)))
        self.assertIsInstance(raised(read_moves, web, "0.1 0.1"), BadText)

    def test_what_is_no_string(self):
        for thing in odd_things():
            error = raised(read_moves, W, thing)
            self.assertIsInstance(error, BadText)
            self.assertEqual(error.line, 1 if isinstance(thing, str) else 0)

    def test_changed_texts(self):
        source = random.Random(3)
        form = re.compile(rf"-|{LONG}\.{LONG}(?: {LONG}\.{LONG})*", re.ASCII)
        right = 0
        for seed in range(15):
            web = some_web(seed)
            moves, _ = random_play(seed, web, (1,) * len(web.dealers))
            for changed in changed_texts(source, moves_text(web, moves[:12]), "0123 -.\n\tx"):
                told = None
                if form.fullmatch(changed):
                    words = [] if changed == "-" else changed.split()
                    told = tuple([tuple([int(part) for part in word.split(".")]) for word in words])
                if told is not None and are_moves(web, told):
                    right += 1
                    self.assertEqual(read_moves(web, changed), told)
                else:
                    self.assertEqual(told_error(read_moves, web, changed), (BadText, {"line": 1}), changed)
        self.assertGreater(right, 50)


class ReadPricesTest(unittest.TestCase):

    def test_texts_read_back(self):
        self.assertEqual(read_prices(W, ""), {})
        self.assertEqual(read_prices(W, prices_text(W, P)), P)
        for seed in range(30):
            web = some_web(seed)
            prices = some_prices(seed, web)
            self.assertEqual(read_prices(web, prices_text(web, prices)), prices)

    def line(self, text):
        error = raised(read_prices, W, text)
        self.assertIsInstance(error, BadText, text)
        return error.line

    def test_the_lines_that_are_told(self):
        self.assertEqual(self.line("\n"), 1)
        self.assertEqual(self.line("0.0.0 1/1"), 1)
        self.assertEqual(self.line("0.0.0 1/1\n\n"), 2)
        self.assertEqual(self.line("0.0.0 1/1\n0.1.0 1/1"), 2)
        self.assertEqual(self.line("0.0.0 1/1\n "), 2)
        self.assertEqual(self.line("x\n0.1.0 1/1"), 1)
        self.assertEqual(self.line("0.0.0 1/1\nx\ny\n"), 2)
        # Steps have to ascend, each of them but once.
        self.assertEqual(self.line("0.0.0 1/1\n0.0.0 1/1\n"), 2)
        self.assertEqual(self.line("0.1.0 1/1\n0.0.0 1/1\n"), 2)
        self.assertEqual(self.line("0.0.0 1/1\n1.1.0 1/1\n1.0.0 1/1\n"), 3)

    def test_wrong_lines(self):
        for line in ["0.0.0 1/1 ", " 0.0.0 1/1", "0.0.0  1/1", "0.0.0\t1/1", "0.0.0 1", "0.0 1/1", "0.0.0.0 1/1", "0.0.0 1/",
                     "0.0.0 /1", "0.0.0 1//1", "0.0.0 1/1/1", "0.0.0 01/1", "0.0.0 1/01", "00.0.0 1/1", "0.0.00 1/1",
                     "0.0.0 -0/1", "0.0.0 --1/1", "0.0.0 +1/1", "0.0.0 1/-1", "0.0.0 -/1", "0.0.0 - 1/1", "0.0.0 2/4",
                     "0.0.0 1/0", "0.0.0 0/2", "0.0.0 -2/2", "0.0.0 0/0", "0.0.1 1/1", "0.2.0 1/1", "2.0.0 1/1", "-0.0.0 1/1",
                     "0.0.0 1000000001/1", "0.0.0 -1000000001/1", "0.0.0 1/1000001", "0,0,0 1/1", "0.0.0 1.0/1", "-", "",
                     "0.0.0 1/1" + "0" * 60, "0.0.0 1" + "0" * 60 + "/1", "0.0.0 \u0661/1", "0.0.0 1/1\r"]:
            self.assertEqual(self.line(line + "\n"), 1, line)
            self.assertEqual(self.line("0.0.0 1/1\n" + line + "\n"), 2, line)

    def test_the_bounds(self):
        text = "0.0.0 1000000000/1\n0.1.0 -1000000000/999999\n1.0.0 -1/1000000\n1.1.0 0/1\n"
        self.assertEqual(read_prices(W, text), {(0, 0, 0): (10 ** 9, 1), (0, 1, 0): (-10 ** 9, 999999),
                                                (1, 0, 0): (-1, 10 ** 6), (1, 1, 0): (0, 1)})

    def test_changed_texts(self):
        source = random.Random(4)
        right = 0
        for seed in range(25):
            web = some_web(seed, 3, 3, 2)
            text = prices_text(web, some_prices(seed, web))
            for changed in changed_texts(source, text, "0123456789 -./\n\tx"):
                want = plain_prices(web, changed)
                right += isinstance(want, list)
                self.assertEqual(told_error(read_prices, web, changed), want, changed)
        self.assertGreater(right, 50)

    def test_what_is_no_string(self):
        for thing in odd_things():
            if not isinstance(thing, str):
                self.assertEqual(self.line(thing), 0)


if __name__ == "__main__":
    unittest.main()
