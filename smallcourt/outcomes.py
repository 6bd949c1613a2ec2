"""Of all cases with some rulings, their weight and the cheapest one."""

from smallcourt.lines import cubes_of
from smallcourt.prices import NEVER


def ruling_weight(tally, lines, otherwise, ruling):
    """Return the weight of the cases with a ruling; `otherwise` is that of cases that meet no line."""
    cubes = cubes_of(lines)
    if ruling != otherwise:
        return sum([tally.first_met(cubes, index) for index, line in enumerate(lines) if line[1] == ruling])
    # The weight of the cases that meet no line takes the longest, so it is told by that of the others.
    others = [tally.first_met(cubes, index) for index, line in enumerate(lines) if line[1] != ruling]
    return tally.total - sum(others)


def cheapest(prices, lines, otherwise, wanted):
    """Return the lowest price of a case with one of the wanted rulings, and this ruling.

    If there is no such case, the price is not less than NEVER, and the ruling is None.
    """
    cubes = cubes_of(lines)
    best = NEVER
    told = None
    for index, (_, ruling) in enumerate(lines):
        if ruling in wanted:
            price = prices.first_met(cubes, index, best)
            if price < best:
                best = price
                told = ruling
    price = prices.none_met(cubes, best) if otherwise in wanted else best
    return (price, otherwise) if price < best else (best, told)


def within_reach(prices, lines, otherwise, wanted):
    """Tell whether there is a case with one of the wanted rulings."""
    return cheapest(prices, lines, otherwise, wanted)[0] < NEVER
