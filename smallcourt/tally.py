"""Weights of all cases that meet none of some cubes, without a walk through all cases."""

from smallcourt.cubes import apart, mentions, narrowed, places, widest


class Tally:
    """Adds up the weights of cases.

    Each place has a pair of weights, for holding and for failing; the weight of a case is the product
    of those of all places. With ones for all of them, the cases are counted.
    """

    def __init__(self, weights):
        self.weights = list(weights)
        self.total = 1
        for pair in weights:
            self.total = self.total * sum(pair)
        self.found = {}

    def met(self, cube):
        """Return the weight of the cases that meet a cube."""
        weight = self.total
        for side in (0, 1):
            for place in places(cube[side]):
                pair = self.weights[place]
                weight = weight * pair[side] // sum(pair)
        return weight

    def first_met(self, cubes, index):
        """Return the weight of the cases for which the cube at an index is the first one that they meet."""
        cube = cubes[index]
        return self.met(cube) * self.none_met(narrowed(cubes[:index], cube)) // self.total

    def none_met(self, cubes):
        """Return the weight of the cases that meet none of the cubes."""
        cubes = widest(cubes)
        if not cubes:
            return self.total
        if cubes[0] == (0, 0):
            return 0
        if cubes not in self.found:
            self.found[cubes] = self.none_met_by_parts(cubes)
        return self.found[cubes]

    def none_met_by_parts(self, cubes):
        """Return the same for cubes that are as wide as can be; groups that share no fact are independent."""
        parts = apart(cubes)
        if len(parts) == 1:
            return self.none_met_by_split(cubes)
        weight = self.total
        for part in parts:
            weight = weight * self.none_met(part) // self.total
        return weight

    def none_met_by_split(self, cubes):
        """Return the same for cubes that all hang together."""
        if len(cubes) == 1:
            return self.total - self.met(cubes[0])
        named = mentions(cubes)
        place = max(named, key=lambda at: named[at])
        index, ties = most_tied(cubes)
        # Either split leaves two smaller questions. That by a fact makes both of them smaller by about
        # half of the cubes that name it; that by a cube makes only one smaller, by all that clash with
        # it. The numbers are where both were about equally fast on books of sixty facts.
        if ties + 12 > 6 * named[place]:
            return self.none_met_by_cube(cubes, index)
        return self.none_met_by_fact(cubes, place)

    def none_met_by_fact(self, cubes, place):
        """Return the same, from the cases in which a fact holds and those in which it fails."""
        holds, fails = self.weights[place]
        weight = 0
        if holds:
            weight += holds * self.none_met(narrowed(cubes, (1 << place, 0)))
        if fails:
            weight += fails * self.none_met(narrowed(cubes, (0, 1 << place)))
        return weight // (holds + fails)

    def none_met_by_cube(self, cubes, index):
        """Return the same, from the cases that meet none of the others, less those which meet this cube."""
        others = cubes[:index] + cubes[index + 1:]
        met = self.met(cubes[index]) * self.none_met(narrowed(others, cubes[index])) // self.total
        return self.none_met(others) - met


def plain_tally(book):
    """Return a tally that counts the cases of a book."""
    return Tally([(1, 1) for _ in book.facts])


def most_tied(cubes):
    """Return the index of the cube that is tied to the others most, and how much.

    Another cube that shares a fact counts once, one that clashes twice.
    """
    best = 0
    most = -1
    named = [holds | fails for holds, fails in cubes]
    for index, (holds, fails) in enumerate(cubes):
        shared = [bits for bits in named if bits & named[index]]
        ties = len(shared) + len([more for more, less in cubes if holds & less or fails & more])
        if ties > most:
            best = index
            most = ties
    return best, most - 1
