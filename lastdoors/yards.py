"""A live web: grains are poured and dealt in it, and what was done can be taken back."""

from lastdoors.amounts import less
from lastdoors.errors import NoGrain, NoHouse, NoNumber, NothingDone
from lastdoors.kinds import is_below, is_within
from lastdoors.plays import first_triple, is_number, led_on, triple_behind
from lastdoors.tables import bill, lead_of, sure_table, worth_of

MOST_POURED = 1000000


class Moment:
    """What is in a yard behind a deed, and the moves of this deed; a moment never changes."""

    def __init__(self, triple, grains, moves):
        self.triple = triple
        self.grains = grains
        self.moves = moves


class Yard:
    """A web with grains, at first without any; its deeds are taken back from the last one on."""

    def __init__(self, web):
        none = (0,) * len(web.dealers)
        self.web = web
        # The last moment is what is now: ahead of it stands one for each deed that can be taken back.
        self.moments = [Moment(first_triple(web, none), none, ())]

    def pour(self, house, many):
        """Let so many grains more wait in a house."""
        if not is_below(house, len(self.web.dealers)):
            raise NoHouse()
        if not is_within(many, 1, MOST_POURED):
            raise NoNumber()
        waiting, ends, cups = self._now().triple
        triple = (_with_more(waiting, house, many), ends, cups)
        self.moments.append(Moment(triple, _with_more(self._now().grains, house, many), ()))

    def deal(self, house, number):
        """Let a grain go out of a house by the step with a number."""
        if not is_below(house, len(self.web.dealers)):
            raise NoHouse()
        if self.heaps()[house] == 0:
            raise NoGrain()
        standing = self.stands()[house]
        if not is_number(self.web, house, standing, number):
            raise NoNumber()
        triple = triple_behind(self.web, self._now().triple, (house, standing, number))
        self.moments.append(Moment(triple, self._now().grains, ((house, number),)))

    def run(self, order, choose):
        """Deal until no grain waits, as order picks each house and choose each step: one deed. Tell its moves."""
        now = self._now()
        # A run is one deed or none: what the functions themselves do to the yard is put back.
        moves, triple = self.trying(lambda yard: led_on(yard.web, now.triple, order, choose))
        self.moments.append(Moment(triple, now.grains, moves))
        return moves

    def heaps(self):
        """Tell how many grains wait in each house."""
        return self._now().triple[0]

    def stands(self):
        """Tell the standing of each dealer."""
        return self._now().triple[1]

    def filled(self):
        """Tell how many grains lie in each cup."""
        return self._now().triple[2]

    def poured(self):
        """Tell how many grains were poured into each house."""
        return self._now().grains

    def dealt(self):
        """Tell all moves."""
        return tuple([move for moment in self.moments for move in moment.moves])

    def spent(self, prices):
        """Tell the bill of all moves."""
        return bill(self.web, prices, self.dealt())

    def owed(self, prices):
        """Tell the worths of all grains that wait less the leads of all standings, together."""
        worths, leads = sure_table(self.web, prices)
        return less(worth_of(worths, self.heaps()), lead_of(leads, self.stands()))

    def back(self):
        """Take back the last deed that is not taken back."""
        if self.depth() == 0:
            raise NothingDone()
        self.moments.pop()

    def depth(self):
        """Tell how many deeds can be taken back."""
        return len(self.moments) - 1

    def copy(self):
        """Make another yard that goes on apart, and can go back as far."""
        other = Yard(self.web)
        other.moments = list(self.moments)
        return other

    def trying(self, action):
        """Call a function with the yard, put everything back to what it was, and tell its result."""
        kept = list(self.moments)
        try:
            return action(self)
        finally:
            self.moments = kept

    def _now(self):
        """Tell the moment behind the last deed."""
        return self.moments[-1]


def _with_more(numbers, place, many):
    """Tell a tuple of numbers with so many more at a place."""
    found = list(numbers)
    found[place] += many
    return tuple(found)
