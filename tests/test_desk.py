"""12.1, 12.2: the desk, line by line."""

import random
import unittest

from lastdoors.classes import many_classes, reduced
from lastdoors.desk import Desk
from lastdoors.errors import (BadText, BadWeb, NoCup, NoLine, NoName, NotFixed, NothingDone, TooMany)
from lastdoors.forests import all_ends
from lastdoors.heaviest import cup_bounds
from lastdoors.making import by_turns, freely
from lastdoors.settling import is_fixed, settled
from lastdoors.tables import share_table
from lastdoors.texts import load_text, web_text
from lastdoors.webs import Web
from tests.helpers import FREE, W, fixed_web, odd_things, raised, some_web

TEXT = "cups 2|house|c0>1|h1>0|house|c1>1|h0>0|"
OTHER = "cups 2|house|c1>0 c0>0|"
WRONG = ["nothing", "drop x", "web a x", "web a cups 0|house|c0>0|", "settle a x", "settle b 1 1", "share a 9", "show x"]


def line_text(web):
    return web_text(web).replace("\n", "|")


def fractions(told):
    return " ".join([f"{top}/{bottom}" for top, bottom in told])


def kept(desk):
    """All that a desk tells of what it keeps."""
    names = desk.tell("names")
    webs = [] if names == "none" else [(name, desk.tell("show " + name)) for name in names.split(" ")]
    return webs, desk.undoable()


def desk_with(**webs):
    desk = Desk()
    for name, web in webs.items():
        desk.tell(f"web {name} {line_text(web)}")
    return desk


class LinesTest(unittest.TestCase):

    def test_by_hand(self):
        desk = Desk()
        self.assertEqual(desk.tell("names"), "none")
        self.assertEqual(desk.tell("web w " + TEXT), "ok")
        self.assertEqual(desk.tell("web free " + OTHER), "ok")
        self.assertEqual(desk.tell("names"), "free w")
        self.assertEqual(desk.tell("show w"), TEXT)
        self.assertEqual((desk.tell("fixed w"), desk.tell("fixed free")), ("yes", "no"))
        self.assertEqual(desk.tell("settle w 2 1"), "1,0 2,1")
        self.assertEqual(desk.tell("class w 2 1"), "0,2")
        self.assertEqual((desk.tell("classes w"), desk.tell("ends w"), desk.tell("ends free")), ("3", "3", "1"))
        self.assertEqual((desk.tell("share w 0"), desk.tell("share free 0")), ("2/3 1/3", "never"))
        self.assertEqual(desk.tell("bounds w 0 1 2"), fractions(cup_bounds(W, 0, (1, 2))))
        self.assertEqual(desk.tell("bounds free 1 5"), "never")
        self.assertEqual(desk.tell("drop w"), "ok")
        self.assertEqual(desk.tell("names"), "free")
        self.assertEqual(desk.tell("undo"), "ok")
        self.assertEqual(desk.tell("names"), "free w")
        self.assertEqual(desk.undoable(), 2)

    def test_against_the_functions(self):
        source = random.Random(1)
        told = {}
        for seed in range(60):
            web = fixed_web(seed) if seed % 2 else some_web(seed)
            desk = desk_with(web=web)
            load = tuple([source.randint(0, 9) for _ in web.dealers])
            text, cup = load_text(web, load), source.randrange(web.cups)
            self.assertEqual(desk.tell("show web"), line_text(web))
            self.assertEqual(desk.tell("fixed web"), "yes" if is_fixed(web) else "no")
            self.assertEqual(desk.tell("ends web"), str(len(all_ends(web))))
            share, bounds = share_table(web, cup), cup_bounds(web, cup, load)
            self.assertEqual(desk.tell(f"share web {cup}"), "never" if share is None else fractions(share[0]))
            self.assertEqual(desk.tell(f"bounds web {cup} {text}"), "never" if bounds is None else fractions(bounds))
            told[share is None] = True
            if is_fixed(web):
                ends, cups = settled(web, load)
                self.assertEqual(desk.tell("settle web " + text),
                                 ",".join(map(str, ends)) + " " + ",".join(map(str, cups)))
                self.assertEqual(desk.tell("class web " + text), ",".join(map(str, reduced(web, load))))
                self.assertEqual(desk.tell("classes web"), str(many_classes(web)))
            else:
                for line in ["settle web " + text, "class web " + text, "classes web"]:
                    self.assertIsInstance(raised(desk.tell, line), NotFixed)
            self.assertEqual(desk.undoable(), 1)
        self.assertEqual(len(told), 2)

    def test_great_numbers(self):
        many = 10 ** 60 - 1
        desk = desk_with(w=W)
        ends, cups = settled(W, (many, many))
        self.assertEqual(desk.tell(f"settle w {many} {many}"), f"{ends[0]},{ends[1]} {cups[0]},{cups[1]}")
        self.assertEqual(cups[0] + cups[1], 2 * many)
        error = raised(desk.tell, f"settle w {many + 1} 0")
        self.assertEqual((type(error), error.line), (BadText, 1))

    def test_names(self):
        desk = Desk()
        for name in ["b", "abcdefgh", "a", "zz", "web", "undo", "names", "aa"]:
            self.assertEqual(desk.tell(f"web {name} {TEXT}"), "ok")
        self.assertEqual(desk.tell("names"), "a aa abcdefgh b names undo web zz")
        for name in ["abcdefghi", "", "A", "a1", "a_", "a.", "\u00e4", "-"]:
            for line in [f"web {name} {TEXT}", f"drop {name}", f"show {name}", f"fixed {name}", f"settle {name} 1 1",
                         f"class {name} 1 1", f"classes {name}", f"ends {name}", f"share {name} 0",
                         f"bounds {name} 0 1 1"]:
                self.assertIsInstance(raised(desk.tell, line), NoLine, line)

    def test_no_line(self):
        desk = desk_with(a=W)
        before = kept(desk)
        for line in ["", " ", "name", "names ", " names", "names a", "undo ", " undo", "undo a", "web", "web ", "web a",
                     "web a ", "web  a " + TEXT, " web a " + TEXT, "webs a " + TEXT, "Web a " + TEXT, "drop", "drop ",
                     "drop a ", "drop  a", "drop a b", "show", "show a ", "show  a", "show a a", "fixed", "fixed a ",
                     "fixed a 1", "settle", "settle a", "settle a ", "settle  a 1 1", "class a", "class a ", "class",
                     "classes", "classes a ", "classes a 1 1", "ends", "ends a ", "ends a a", "share", "share a",
                     "share a ", "share a  0", "share a 0 ", "share a 0 1", "share a 00", "share a 01", "share a -0",
                     "share a -1", "share a +1", "share a x", "share a 1234567890", "share a \u0661", "share a \u00b2",
                     "bounds", "bounds a", "bounds a 0", "bounds a 0 ", "bounds a  0 1 1", "bounds a 00 1 1",
                     "bounds a x 1 1", "bounds a -1 1 1", "bounds a 1234567890 1 1", "bounds  a 0 1 1", "\tnames",
                     "names\n", "show a\n", "show\na", "web a cups 2\nhouse", "settle a 1\n1", "\n", "undo\n"]:
            self.assertIsInstance(raised(desk.tell, line), NoLine, line)
        self.assertEqual(kept(desk), before)

    def test_what_is_no_string(self):
        desk = desk_with(a=W)
        before = kept(desk)
        for thing in odd_things() + [["names"], ("names",), b"names"]:
            self.assertIsInstance(raised(desk.tell, thing), NoLine)
        self.assertEqual(kept(desk), before)

    def test_no_name(self):
        desk = desk_with(a=W)
        before = kept(desk)
        for line in ["drop b", "show b", "fixed b", "settle b x", "settle b  ", "class b 1 1", "classes b", "ends b",
                     "share b 123456789", "bounds b 9 x", "bounds b 9  ", "show aa"]:
            error = raised(desk.tell, line)
            self.assertIsInstance(error, NoName, line)
            self.assertEqual(error.name, line.split(" ")[1])
        self.assertEqual(kept(desk), before)
        desk.tell("drop a")
        self.assertIsInstance(raised(desk.tell, "show a"), NoName)


class TextsTest(unittest.TestCase):

    def test_bad_text_of_a_web(self):
        desk = desk_with(a=W)
        before = kept(desk)
        for text, line in [("x", 1), (" ", 1), (" " + TEXT, 1), (TEXT + " ", 8), (TEXT[:-1], 7), (TEXT + "|", 8),
                           ("|" + TEXT, 1), ("cups 2|", 2), ("cups 2", 1), ("|", 1), ("cups 2|house|c0>00|", 3),
                           ("cups 2|house|c0>0 |", 3), ("cups 2|house|c0>0\t|", 3), ("cups 1234567890|house|c0>0|", 1)]:
            error = raised(desk.tell, "web a " + text)
            self.assertIsInstance(error, BadText, text)
            self.assertEqual(error.line, line, text)
        self.assertEqual(kept(desk), before)

    def test_bad_web(self):
        desk = desk_with(a=W)
        before = kept(desk)
        for text, part, at in [("cups 0|house|c0>0|", "cups", -1), ("cups 1|house|", "dealers", 0),
                               ("cups 1|house|c0>0|c0>1|", "apart", 0), ("cups 1|house|h0>0|", "lost", 0)]:
            error = raised(desk.tell, "web a " + text)
            self.assertIsInstance(error, BadWeb)
            self.assertEqual((error.part, error.at), (part, at))
        self.assertEqual(kept(desk), before)

    def test_cups_ahead_of_loads(self):
        desk = desk_with(a=W, b=FREE)
        for line in ["share a 2", "share a 123456789", "bounds a 2 x", "bounds a 2 1 1", "bounds b 9  ", "share b 2"]:
            self.assertIsInstance(raised(desk.tell, line), NoCup, line)

    def test_loads_ahead_of_what_the_functions_raise(self):
        desk = desk_with(a=W, b=FREE)
        for line in ["settle a x", "settle a 1", "settle a 1 1 ", "settle a  1 1", "settle a  ", "settle a 1  1",
                     "settle a 1 01", "settle a 1,1", "class a 1 -1", "class a 1 1 1", "bounds a 0 x", "bounds a 0  1 1",
                     "bounds a 0 1 1 ", "bounds a 0  ", "settle b x", "class b 1 1", "bounds b 0 1 1", "bounds b 0 -",
                     "settle a 1 1\t"]:
            error = raised(desk.tell, line)
            self.assertIsInstance(error, BadText, line)
            self.assertEqual(error.line, 1)
        for line in ["settle b 1", "class b 1", "classes b"]:
            self.assertIsInstance(raised(desk.tell, line), NotFixed, line)

    def test_too_many_ends(self):
        desk = desk_with(much=Web(1, (by_turns((-1,) * 8),) * 5), most=Web(1, (by_turns((-1,) * 7),) * 5))
        error = raised(desk.tell, "ends much")
        self.assertEqual((type(error), error.most), (TooMany, 20000))
        self.assertEqual(desk.tell("ends most"), str(7 ** 5))
        self.assertEqual(desk.tell("classes much"), str(8 ** 5))


class UndoTest(unittest.TestCase):

    def test_nothing_done(self):
        desk = Desk()
        self.assertIsInstance(raised(desk.tell, "undo"), NothingDone)
        desk.tell("web a " + TEXT)
        for line in ["names", "show a", "fixed a", "settle a 1 1", "class a 1 1", "classes a", "ends a", "share a 0",
                     "bounds a 0 1 1"]:
            desk.tell(line)
        self.assertEqual(desk.undoable(), 1)
        self.assertEqual(desk.tell("undo"), "ok")
        self.assertIsInstance(raised(desk.tell, "undo"), NothingDone)
        self.assertEqual(kept(desk), ([], 0))

    def test_of_webs_that_replaced_elder_ones(self):
        desk = Desk()
        desk.tell("web a " + TEXT)
        desk.tell("web a " + OTHER)
        desk.tell("web a " + OTHER)
        self.assertEqual(kept(desk), ([("a", OTHER)], 3))
        desk.tell("undo")
        self.assertEqual(kept(desk), ([("a", OTHER)], 2))
        desk.tell("undo")
        self.assertEqual(kept(desk), ([("a", TEXT)], 1))
        self.assertEqual(desk.tell("settle a 2 1"), "1,0 2,1")
        desk.tell("undo")
        self.assertEqual(kept(desk), ([], 0))

    def test_of_drop_lines(self):
        desk = Desk()
        desk.tell("web a " + TEXT)
        desk.tell("web b " + OTHER)
        desk.tell("drop a")
        desk.tell("drop b")
        self.assertEqual(kept(desk), ([], 4))
        desk.tell("undo")
        self.assertEqual(kept(desk), ([("b", OTHER)], 3))
        desk.tell("web b " + TEXT)
        desk.tell("undo")
        desk.tell("undo")
        self.assertEqual(kept(desk), ([("a", TEXT), ("b", OTHER)], 2))

    def test_nothing_is_changed_by_a_line_that_raises(self):
        desk = desk_with(a=W, b=FREE)
        desk.tell("drop b")
        before = kept(desk)
        for line in WRONG:
            self.assertIsNotNone(raised(desk.tell, line))
            self.assertEqual(kept(desk), before)

    def test_drawn_lines_against_an_account(self):
        source = random.Random(7)
        texts = [line_text(some_web(seed, 2, 2, 2)) for seed in range(6)]
        for _ in range(20):
            desk, now, past = Desk(), {}, []
            for _ in range(60):
                word, name = source.choice(["web", "web", "drop", "undo", "wrong"]), source.choice("abc")
                if word == "web":
                    text = source.choice(texts)
                    past.append(dict(now))
                    now[name] = text
                    self.assertEqual(desk.tell(f"web {name} {text}"), "ok")
                elif word == "drop" and name in now:
                    past.append(dict(now))
                    del now[name]
                    self.assertEqual(desk.tell("drop " + name), "ok")
                elif word == "drop":
                    self.assertIsInstance(raised(desk.tell, "drop " + name), NoName)
                elif word == "undo" and past:
                    now = past.pop()
                    self.assertEqual(desk.tell("undo"), "ok")
                elif word == "undo":
                    self.assertIsInstance(raised(desk.tell, "undo"), NothingDone)
                else:
                    raised(desk.tell, "web a " + source.choice(["x", "cups 2|", "cups 9|house|c0>0|"]))
                self.assertEqual(kept(desk), (sorted(now.items()), len(past)))

    def test_desks_are_apart(self):
        one, other = Desk(), Desk()
        one.tell("web a " + TEXT)
        self.assertEqual((other.tell("names"), other.undoable()), ("none", 0))
        self.assertFalse(one == other)

    def test_a_dealer_of_freely_made_doors(self):
        desk = desk_with(f=Web(3, (freely((-3, 0)),)))
        self.assertEqual(desk.tell("share f 2"), "1/1")
        self.assertEqual(desk.tell("bounds f 2 12"), "12/1 12/1")
        self.assertEqual(desk.tell("share f 1"), "0/1")
        self.assertEqual(desk.tell("bounds f 1 12"), "0/1 0/1")


if __name__ == "__main__":
    unittest.main()
