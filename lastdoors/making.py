"""Dealers that are made of doors."""

from lastdoors.errors import NoDoors, NoNumber
from lastdoors.kinds import is_ascending, is_within

LOWEST_DOOR = -6
HIGHEST_DOOR = 7


def _are_doors(thing, most):
    """Judge whether a thing is a tuple of 1 to so many doors of any web."""
    if not isinstance(thing, tuple) or not 1 <= len(thing) <= most:
        return False
    return all([is_within(door, LOWEST_DOOR, HIGHEST_DOOR) for door in thing])


def by_turns(doors):
    """Make a dealer that passes on by the doors in turn, again and again."""
    if not _are_doors(doors, 8):
        raise NoDoors()
    return tuple([((door, (k + 1) % len(doors)),) for k, door in enumerate(doors)])


def in_rounds(doors):
    """Make a dealer that passes on once by each door in each round, in any order."""
    if not (_are_doors(doors, 3) and is_ascending(doors)):
        raise NoDoors()
    lots = _lots_below(len(doors))
    numbers = {lot: k for k, lot in enumerate(lots)}
    return tuple([_round_standing(doors, lot, numbers) for lot in lots])


def _lots_below(many):
    """Tell the lots of places below a number, but that of all, by their size, then as tuples."""
    lots = [()]
    for place in range(many):
        lots = lots + [(*lot, place) for lot in lots]
    ordered = sorted([(len(lot), lot) for lot in lots if len(lot) < many])
    return [lot for _, lot in ordered]


def _round_standing(doors, lot, numbers):
    """Make the standing of a round in which the doors at the places of a lot were taken."""
    pairs = []
    for place, door in enumerate(doors):
        if place not in lot:
            # The lot of all places has no number: there the round ends in standing 0.
            taken = tuple(sorted((*lot, place)))
            pairs.append((door, numbers.get(taken, 0)))
    return tuple(pairs)


def freely(doors):
    """Make a dealer that passes on by any of the doors at any time."""
    if not (_are_doors(doors, 6) and is_ascending(doors)):
        raise NoDoors()
    return (tuple([(door, 0) for door in doors]),)


def never_ahead(one, other, most):
    """Make a dealer that never takes one of two doors more than most times oftener than the other."""
    if not _are_doors((one, other), 2) or one == other:
        raise NoDoors()
    if not is_within(most, 1, 3):
        raise NoNumber()
    # Standing k is that of this lead of the one door over the other.
    leads = [0]
    for lead in range(1, most + 1):
        leads.extend([lead, -lead])
    return tuple([_lead_standing(one, other, leads, lead) for lead in leads])


def _lead_standing(one, other, leads, lead):
    """Make the standing of a lead: steps to one more and one less, where these are among the leads."""
    pairs = [(one, lead + 1), (other, lead - 1)]
    return tuple(sorted([(door, leads.index(after)) for door, after in pairs if after in leads]))
