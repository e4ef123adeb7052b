"""Plays to told last doors."""

from lastdoors.errors import NoForest
from lastdoors.filling import dealt, filled, fillers, load_of_tails, tails_of, written
from lastdoors.forests import is_forest


def reached_by(web, forest):
    """Tell a full load and a play of it whose last steps are a forest."""
    if not is_forest(web, forest):
        raise NoForest()
    tails = tails_of(web, forest)
    rounds = fillers(web)
    load = load_of_tails(web, tails)
    needed = filled(web, rounds, load)
    diaries = written([(rounds[house], many) for house, many in needed.items()], tails)
    return tuple(load), dealt(web, load, diaries)
