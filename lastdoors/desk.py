"""A desk that keeps webs under names and works by lines."""

from lastdoors.classes import many_classes, reduced
from lastdoors.errors import NoCup, NoLine, NoName, NothingDone
from lastdoors.forests import all_ends
from lastdoors.heaviest import cup_bounds
from lastdoors.kinds import is_below
from lastdoors.reading import read_load, read_web
from lastdoors.settling import is_fixed, settled
from lastdoors.tables import share_table
from lastdoors.words import SHORT, is_number_word

LETTERS = "abcdefghijklmnopqrstuvwxyz"
LONGEST_NAME = 8
ALONE = ("names", "undo")
# What stands behind the name in lines with these words: a cup or none, and a rest or none.
FORMS = {
    "web": (False, True),
    "drop": (False, False),
    "show": (False, False),
    "fixed": (False, False),
    "settle": (False, True),
    "class": (False, True),
    "classes": (False, False),
    "ends": (False, False),
    "share": (True, False),
    "bounds": (True, True),
}


def _parts_of(line):
    """Tell the word, the name, the cup and the rest of a line, "" for what its form has not, or raise NoLine."""
    if not isinstance(line, str) or "\n" in line:
        raise NoLine()
    if line in ALONE:
        return line, "", "", ""
    word, _, behind = line.partition(" ")
    if word not in FORMS:
        raise NoLine()
    has_cup, has_rest = FORMS[word]
    name, cup, rest = _cut(behind, has_cup, has_rest)
    if not _is_name(name):
        raise NoLine()
    if has_cup and not is_number_word(cup, SHORT):
        raise NoLine()
    if has_rest and rest == "":
        raise NoLine()
    return word, name, cup, rest


def _cut(text, has_cup, has_rest):
    """Tell the name, the cup and the rest of what stands behind a word: the last part is all that is left."""
    name, cup, rest = text, "", ""
    if has_cup and has_rest:
        name, _, behind = text.partition(" ")
        cup, _, rest = behind.partition(" ")
    elif has_cup:
        name, _, cup = text.partition(" ")
    elif has_rest:
        name, _, rest = text.partition(" ")
    return name, cup, rest


def _is_name(text):
    """Judge whether a text is a name."""
    return 1 <= len(text) <= LONGEST_NAME and all([sign in LETTERS for sign in text])


class Desk:
    """Webs under names; lines that put or drop one are taken back from the last one on."""

    def __init__(self):
        # Names lead to pairs of a text and its web; deeds are pairs of a name and what was kept under it.
        self.kept = {}
        self.deeds = []

    def tell(self, line):
        """Do what a line says, and tell what comes of it."""
        word, name, cup, rest = _parts_of(line)
        if word == "names":
            return " ".join(sorted(self.kept)) if self.kept else "none"
        if word == "undo":
            return self._undo()
        if word == "web":
            return self._put(name, (rest, read_web(rest.replace("|", "\n"))))
        if name not in self.kept:
            raise NoName(name)
        if word == "drop":
            return self._put(name, None)
        text, web = self.kept[name]
        if word == "show":
            return text
        if word in ("share", "bounds"):
            return _of_cup(web, word, int(cup), rest)
        return _of_web(web, word, rest)

    def undoable(self):
        """Tell how many lines can be taken back."""
        return len(self.deeds)

    def _put(self, name, entry):
        """Keep an entry under a name, None to drop what is there, and remember what was there."""
        self.deeds.append((name, self.kept.get(name)))
        self._keep(name, entry)
        return "ok"

    def _undo(self):
        """Take back the last line that put or dropped a web."""
        if not self.deeds:
            raise NothingDone()
        name, entry = self.deeds.pop()
        self._keep(name, entry)
        return "ok"

    def _keep(self, name, entry):
        """Keep an entry under a name, None for nothing."""
        if entry is None:
            self.kept.pop(name, None)
        else:
            self.kept[name] = entry


def _of_web(web, word, rest):
    """Answer a line that asks for a web, and perhaps for a load of it."""
    if word == "fixed":
        return "yes" if is_fixed(web) else "no"
    if word == "classes":
        return str(many_classes(web))
    if word == "ends":
        return str(len(all_ends(web)))
    load = read_load(web, rest)
    if word == "class":
        return _with_commas(reduced(web, load))
    ends, cups = settled(web, load)
    return _with_commas(ends) + " " + _with_commas(cups)


def _of_cup(web, word, cup, rest):
    """Answer a line that asks for a cup of a web, and perhaps for a load of it."""
    if word == "share":
        found = share_table(web, cup)
        return "never" if found is None else _with_blanks(found[0])
    # A wrong cup is told ahead of a wrong load.
    if not is_below(cup, web.cups):
        raise NoCup()
    bounds = cup_bounds(web, cup, read_load(web, rest))
    return "never" if bounds is None else _with_blanks(bounds)


def _with_commas(numbers):
    """Write numbers with commas between."""
    return ",".join([str(number) for number in numbers])


def _with_blanks(amounts):
    """Write fractions with blanks between."""
    return " ".join([f"{top}/{bottom}" for top, bottom in amounts])
