"""All that can come of small loads."""

from lastdoors.amounts import greatest, plus
from lastdoors.errors import NoLoad, TooMany
from lastdoors.plays import first_triple, is_load, triple_behind
from lastdoors.tables import lead_of, sure_table, worth_of

MOST_TRIPLES = 20000


def _triples(web, load):
    """Tell all triples (waiting, ends, cups) of plays of a load, by as few moves as lead to them.

    It is a dict to the pair of a triple one move ahead and this move, None for the first triple.
    """
    first = first_triple(web, load)
    ahead = {first: None}
    found = [first]
    at = 0
    while at < len(found):
        triple = found[at]
        at += 1
        for move, after in _moves_on(web, triple):
            if after not in ahead:
                if len(found) == MOST_TRIPLES:
                    raise TooMany(MOST_TRIPLES)
                ahead[after] = (triple, move)
                found.append(after)
    return ahead


def _moves_on(web, triple):
    """Tell all moves that can be done at a triple, each with the triple behind it."""
    found = []
    for house, many in enumerate(triple[0]):
        if many > 0:
            standing = triple[1][house]
            for number in range(len(web.dealers[house][standing])):
                found.append(((house, number), triple_behind(web, triple, (house, standing, number))))
    return found


def ends_of(web, load):
    """Tell all pairs (ends, cups) to which plays of a load can come, ascending."""
    if not is_load(web, load):
        raise NoLoad()
    return sorted([(ends, cups) for waiting, ends, cups in _triples(web, load) if sum(waiting) == 0])


def most_of(web, prices, load):
    """Tell the greatest bill of a play of a load."""
    worths, leads = sure_table(web, prices)
    most = greatest([lead_of(leads, ends) for ends, _ in ends_of(web, load)])
    return plus(worth_of(worths, load), most)


def shortest_play(web, load):
    """Tell a play of a load of as few moves as can be."""
    if not is_load(web, load):
        raise NoLoad()
    ahead = _triples(web, load)
    done = [triple for triple in ahead if sum(triple[0]) == 0]
    # Triples stand in the order of the fewest moves to them.
    moves = []
    before = ahead[done[0]]
    while before is not None:
        triple, move = before
        moves.append(move)
        before = ahead[triple]
    return tuple(reversed(moves))
