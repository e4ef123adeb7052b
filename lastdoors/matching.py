"""Which ends go with which loads: those where the load, less that of ways to the ends, is one of closed walks."""

from lastdoors.forests import grown_forest, steps_behind
from lastdoors.lattices import Lattice
from lastdoors.plays import counted
from lastdoors.walks import closed_walks, load_of_counts, ways_out
from lastdoors.webs import steps, steps_of

MOST_SUMS = 5000


class Matching:
    """The closed walks of a web, the lattice of their loads, and ways to all standings."""

    def __init__(self, web):
        self.web = web
        self.walks = closed_walks(web)
        self.lattice = Lattice([load_of_counts(web, counted(walk)) for walk in self.walks])
        self.ways = [ways_out(web, house) for house in range(len(web.dealers))]

    def load_to(self, ends):
        """Tell the load of ways to ends: perhaps below 0 in some houses."""
        return load_of_counts(self.web, counted([step for ways, end in zip(self.ways, ends) for step in ways[end]]))

    def open_load(self, load, ends):
        """Tell the load to which closed walks have to come besides ways to the ends."""
        return [grains - other for grains, other in zip(load, self.load_to(ends))]

    def is_fit(self, load, ends):
        """Judge whether ends fit a load."""
        return self.lattice.rest(load) == self.lattice.rest(self.load_to(ends))

    def counts(self, load, ends):
        """Tell how often to count each step, so that ends fit a load as they do."""
        counts = {step: 0 for step in steps(self.web)}
        for ways, end in zip(self.ways, ends):
            for step in ways[end]:
                counts[step] += 1
        for at, many in self.lattice.multiples(self.open_load(load, ends)).items():
            for step in self.walks[at]:
                counts[step] += many
        return counts

    def ends_for(self, load):
        """Tell all ends that fit a load and to which there is a forest, ascending.

        They are found house by house; what is begun goes on if a forest still can come of it, and if
        the houses behind can bring what is left of the load to nothing.
        """
        rows = self._rests_of_ways()
        behind = self._sums_behind(rows)
        choices = [steps_of(self.web, house) for house in range(len(rows))]
        arriving = steps_behind(self.web)
        found = [((), self.lattice.rest(load))]
        for house, row in enumerate(rows):
            longer = []
            for ends, left in found:
                begun = [arriving[other][end] for other, end in enumerate(ends)]
                for end, part in enumerate(row):
                    rest = self.lattice.rest([a - b for a, b in zip(left, part)])
                    if behind[house] is None or rest in behind[house]:
                        chosen = begun + [arriving[house][end]] + choices[house + 1:]
                        if grown_forest(self.web, chosen) is not None:
                            longer.append(((*ends, end), rest))
            found = longer
        return [ends for ends, _ in found]

    def _rests_of_ways(self):
        """Tell for each house and each standing of it the rest of the load of a way to it."""
        rows = []
        for ways in self.ways:
            loads = [load_of_counts(self.web, counted(ways[end])) for end in range(len(ways))]
            rows.append([self.lattice.rest(load) for load in loads])
        return rows

    def _sums_behind(self, rows):
        """Tell for each house the rests of all sums, one part of each row behind it; None where too many."""
        sums = {(0,) * len(rows): True}
        behind = [sums]
        for row in reversed(rows[1:]):
            if sums is not None and len(sums) * len(row) <= MOST_SUMS:
                sums = self._all_sums(sums, row)
            else:
                sums = None
            behind.append(sums)
        return list(reversed(behind))

    def _all_sums(self, sums, row):
        """Tell the rests of all sums of one of some rests and one part of a row."""
        found = {}
        for one in sums:
            for part in row:
                found[self.lattice.rest([a + b for a, b in zip(one, part)])] = True
        return found
