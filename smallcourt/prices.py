"""Lowest prices of cases that meet none of some cubes, without a walk through all cases."""

from smallcourt.cubes import apart, mentions, narrowed, places, widest

# More than the sum of any prices: what no case is to be had for.
NEVER = 2 ** 64 * 2 ** 64


class Prices:
    """Looks for the cheapest case; its price is the sum of the prices of the places of all facts that hold.

    A search has a limit: what it returns is the lowest price if that is less, and otherwise a number
    that is not less than the limit.
    """

    def __init__(self, prices):
        self.prices = list(prices)
        self.found = {}
        self.least = {}

    def met(self, cube):
        """Return the lowest price of a case that meets a cube."""
        return sum([self.prices[place] for place in places(cube[0])])

    def first_met(self, cubes, index, limit):
        """Return the lowest price of a case for which the cube at an index is the first one that it meets."""
        cube = cubes[index]
        price = self.met(cube)
        if price < limit:
            price += self.none_met(narrowed(cubes[:index], cube), limit - price)
        return price

    def none_met(self, cubes, limit):
        """Return the lowest price of a case that meets none of the cubes."""
        if all([holds for holds, _ in cubes]):
            return 0
        cubes = widest(cubes)
        if cubes[0] == (0, 0):
            return NEVER
        if cubes in self.found:
            return self.found[cubes]
        least = max(self.least.get(cubes, 0), self.at_least(cubes))
        if least >= limit:
            return least
        price = self.none_met_by_parts(cubes, limit)
        if price < limit:
            self.found[cubes] = price
        else:
            self.least[cubes] = limit
        return price

    def at_least(self, cubes):
        """Return a price that is not more than the lowest one: each of some cubes without a common fact needs one."""
        named = 0
        price = 0
        for holds, fails in cubes:
            if not holds and not fails & named:
                named = named | fails
                price += min([self.prices[place] for place in places(fails)])
        return price

    def none_met_by_parts(self, cubes, limit):
        """Return the same for cubes that are as wide as can be; groups that share no fact are independent."""
        parts = apart(cubes)
        if len(parts) == 1:
            return self.none_met_by_fact(cubes, limit)
        price = 0
        for part in parts:
            if price < limit:
                price += self.none_met(part, limit - price)
        return price

    def none_met_by_fact(self, cubes, limit):
        """Return the same for cubes that all hang together, one of which is met if no fact holds."""
        named = mentions([cube for cube in cubes if not cube[0]])
        place = max(named, key=lambda at: named[at])
        price = self.prices[place]
        if price < limit:
            price += self.none_met(narrowed(cubes, (1 << place, 0)), limit - price)
        # Nothing is cheaper than nothing; where facts have no price, this saves most of the search.
        if price == 0:
            return 0
        return min(price, self.none_met(narrowed(cubes, (0, 1 << place)), min(limit, price)))
