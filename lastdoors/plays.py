"""Moves and plays of loads."""

from lastdoors.errors import NoLoad, NoMoves, TooMany
from lastdoors.kinds import is_below, is_integer, is_tuple_of
from lastdoors.webs import pair_of

MOST_MOVES = 30000


def is_load(web, thing):
    """Judge whether a thing is a load: an integer from 0 on for each house."""
    if not is_tuple_of(thing, len(web.dealers)):
        return False
    return all([is_integer(many) and many >= 0 for many in thing])


def many_full_loads(web, most):
    """Tell how many full loads there are with at most so many grains in each house."""
    many = 1
    for _ in web.dealers:
        many = many * most
    return many


def full_loads(web, most):
    """Tell all full loads with at most so many grains in each house, ascending."""
    loads = [()]
    for _ in web.dealers:
        loads = [(*load, grains) for load in loads for grains in range(1, most + 1)]
    return loads


def are_ends(web, thing):
    """Judge whether a thing is a tuple with a standing of each house."""
    if not is_tuple_of(thing, len(web.dealers)):
        return False
    return all([is_below(end, len(dealer)) for end, dealer in zip(thing, web.dealers)])


def steps_taken(web, moves):
    """Tell the steps that moves take, one behind another, or None for what is no moves."""
    if not isinstance(moves, tuple):
        return None
    stands = [0] * len(web.dealers)
    taken = []
    for move in moves:
        if not (is_tuple_of(move, 2) and is_below(move[0], len(stands))):
            return None
        house, number = move
        if not is_number(web, house, stands[house], number):
            return None
        taken.append((house, stands[house], number))
        stands[house] = pair_of(web, taken[-1])[1]
    return taken


def is_number(web, house, standing, number):
    """Judge whether a thing is the number of a step at a standing of a house."""
    return is_below(number, len(web.dealers[house][standing]))


def _done(web, load, taken):
    """Tell (waiting, ends, cups) behind steps from a load, or None if a grain lacks."""
    waiting, stands, cups = [list(part) for part in first_triple(web, load)]
    for step in taken:
        if waiting[step[0]] == 0:
            return None
        _deal(web, step, waiting, stands, cups)
    return tuple(waiting), tuple(stands), tuple(cups)


def _deal(web, step, waiting, stands, cups):
    """Let a grain go out by a step: the three lists are changed."""
    house = step[0]
    door, after = pair_of(web, step)
    waiting[house] -= 1
    stands[house] = after
    if door >= 0:
        waiting[door] += 1
    else:
        cups[-1 - door] += 1


def first_triple(web, load):
    """Tell the triple (waiting, ends, cups) ahead of all moves."""
    return tuple(load), (0,) * len(web.dealers), (0,) * web.cups


def triple_behind(web, triple, step):
    """Tell the triple (waiting, ends, cups) behind a step of a house in which a grain waits."""
    waiting, stands, cups = [list(part) for part in triple]
    _deal(web, step, waiting, stands, cups)
    return tuple(waiting), tuple(stands), tuple(cups)


def played(web, load, moves):
    """Tell what waits in houses, where dealers stand, and what lies in cups, behind moves from a load."""
    if not is_load(web, load):
        raise NoLoad()
    taken = steps_taken(web, moves)
    if taken is None:
        raise NoMoves()
    done = _done(web, load, taken)
    if done is None:
        raise NoMoves()
    return done


def are_moves(web, thing):
    """Judge whether a thing is moves of a web, whether grains wait or not."""
    return steps_taken(web, thing) is not None


def is_play(web, load, thing):
    """Judge whether a thing is a play of a load."""
    if not is_load(web, load):
        raise NoLoad()
    taken = steps_taken(web, thing)
    if taken is None:
        return False
    done = _done(web, load, taken)
    return done is not None and sum(done[0]) == 0


def used(web, moves):
    """Tell how often moves take each step that they take."""
    taken = steps_taken(web, moves)
    if taken is None:
        raise NoMoves()
    return counted(taken)


def counted(taken):
    """Tell how often each step of a list stands in it."""
    counts = {}
    for step in taken:
        counts[step] = counts.get(step, 0) + 1
    return counts


def last_steps(web, moves):
    """Tell the last step that moves take in each house, None where there is none."""
    taken = steps_taken(web, moves)
    if taken is None:
        raise NoMoves()
    last = [None] * len(web.dealers)
    for step in taken:
        last[step[0]] = step
    return tuple(last)


def led(web, load, order, choose):
    """Tell the moves of the play in which order picks each house and choose each step."""
    if not is_load(web, load):
        raise NoLoad()
    moves, _ = led_on(web, first_triple(web, load), order, choose)
    return moves


def led_on(web, triple, order, choose):
    """Lead what waits at a triple until nothing does: tell the moves, and the triple behind them."""
    waiting, stands, cups = [list(part) for part in triple]
    moves = []
    while sum(waiting) > 0:
        if len(moves) == MOST_MOVES:
            raise TooMany(MOST_MOVES)
        house = order(tuple(waiting), tuple(stands))
        if not is_below(house, len(waiting)) or waiting[house] == 0:
            raise NoMoves()
        number = choose(house, stands[house])
        if not is_number(web, house, stands[house], number):
            raise NoMoves()
        moves.append((house, number))
        _deal(web, (house, stands[house], number), waiting, stands, cups)
    return tuple(moves), (tuple(waiting), tuple(stands), tuple(cups))
