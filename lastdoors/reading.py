"""Texts of webs, loads, moves and prices, read back."""

from lastdoors.errors import BadText
from lastdoors.plays import are_moves
from lastdoors.prices import is_price
from lastdoors.webs import Web, is_step
from lastdoors.words import SHORT, is_number_word, numbers_between


def read_web(text):
    """Read the text of a web."""
    lines, rest = _lines_of(text)
    cups = None
    dealers = []
    for at, line in enumerate(lines):
        if at == 0:
            cups = _cups_of(line)
            if cups is None:
                raise BadText(1)
        elif line == "house":
            dealers.append([])
        else:
            pairs = _pairs_of(line)
            if pairs is None or dealers == []:
                raise BadText(at + 1)
            dealers[-1].append(pairs)
    if rest != "" or dealers == []:
        raise BadText(len(lines) + 1)
    return Web(cups, tuple([tuple(standings) for standings in dealers]))


def _lines_of(text):
    """Tell the list of lines that are closed, and what stands behind the last line feed."""
    _check_string(text)
    parts = text.split("\n")
    return parts[:-1], parts[-1]


def _check_string(text):
    """Raise BadText for what is no string."""
    if not isinstance(text, str):
        raise BadText(0)


def _cups_of(line):
    """Tell the number of the line of cups, None where it has not this form."""
    word, _, number = line.partition(" ")
    if word != "cups" or not is_number_word(number, SHORT):
        return None
    return int(number)


def _pairs_of(line):
    """Tell the pairs (door, next) of the line of a standing, None where it has not this form."""
    pairs = [_pair_of(word) for word in line.split(" ")]
    return None if None in pairs else tuple(pairs)


def _pair_of(word):
    """Tell the pair (door, next) of a step, None where it has not this form."""
    door, _, after = word.partition(">")
    if not (is_number_word(door[1:], SHORT) and is_number_word(after, SHORT)):
        return None
    if door[0] == "h":
        return int(door[1:]), int(after)
    if door[0] == "c":
        return -1 - int(door[1:]), int(after)
    return None


def read_load(web, text):
    """Read the text of a load of a web."""
    _check_string(text)
    load = numbers_between(text, " ", len(web.dealers))
    if load is None:
        raise BadText(1)
    return load


def read_moves(web, text):
    """Read the text of moves of a web."""
    _check_string(text)
    if text == "-":
        return ()
    moves = tuple([numbers_between(word, ".", 2) for word in text.split(" ")])
    if not are_moves(web, moves):
        raise BadText(1)
    return moves


def read_prices(web, text):
    """Read the text of prices of steps of a web."""
    lines, rest = _lines_of(text)
    prices = {}
    ahead = ()
    for at, line in enumerate(lines):
        name, _, amount = line.partition(" ")
        step = numbers_between(name, ".", 3)
        price = _fraction_of(amount)
        if not (is_step(web, step) and is_price(price) and step > ahead):
            raise BadText(at + 1)
        prices[step] = price
        ahead = step
    if rest != "":
        raise BadText(len(lines) + 1)
    return prices


def _fraction_of(word):
    """Tell the pair (top, bottom) of a word, in lowest terms or not, None where it has not this form."""
    if not word.startswith("-"):
        return numbers_between(word, "/", 2)
    pair = numbers_between(word[1:], "/", 2)
    if pair is None or pair[0] == 0:
        return None
    return -pair[0], pair[1]
