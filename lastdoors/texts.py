"""Webs, loads, moves and prices, written as texts."""

from lastdoors.errors import NoLoad, NoMoves, NoPrices
from lastdoors.plays import are_moves, is_load
from lastdoors.prices import are_prices

FIGURES_AT_ONCE = 60


def web_text(web):
    """Write a web: its cups, and for each house a line of its own and a line for each standing."""
    lines = [f"cups {web.cups}"]
    for dealer in web.dealers:
        lines.append("house")
        for pairs in dealer:
            lines.append(" ".join([f"{_door_text(door)}>{after}" for door, after in pairs]))
    return _closed(lines)


def _door_text(door):
    """Write a door: the number of a house, or that of a cup."""
    return f"h{door}" if door >= 0 else f"c{-1 - door}"


def _closed(lines):
    """Join lines, each of them closed by a line feed."""
    return "".join([line + "\n" for line in lines])


def load_text(web, load):
    """Write the numbers of a load."""
    if not is_load(web, load):
        raise NoLoad()
    return " ".join([_number_text(grains) for grains in load])


def _number_text(number):
    """Write a number from 0 on, however long: Python itself writes only some thousand figures at once."""
    parts = []
    left = number
    while left >= 10 ** 60:
        left, low = divmod(left, 10 ** 60)
        parts.append(str(low).zfill(FIGURES_AT_ONCE))
    parts.append(str(left))
    return "".join(reversed(parts))


def moves_text(web, moves):
    """Write moves of a web."""
    if not are_moves(web, moves):
        raise NoMoves()
    if moves == ():
        return "-"
    return " ".join([f"{house}.{number}" for house, number in moves])


def prices_text(web, prices):
    """Write a line for each step that is a key of prices."""
    if not are_prices(web, prices):
        raise NoPrices()
    lines = []
    for house, standing, number in sorted(prices):
        top, bottom = prices[(house, standing, number)]
        lines.append(f"{house}.{standing}.{number} {top}/{bottom}")
    return _closed(lines)
