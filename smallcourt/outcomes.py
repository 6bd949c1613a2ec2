"""Of all cases with some rulings, their weight and the cheapest one."""

from smallcourt.lines import cubes_of
from smallcourt.prices import NEVER, Prices


def weights_by_ruling(tally, lines, otherwise, rulings):
    """Return a dict from rulings to the weights of the cases that have them; `otherwise` is that of no line."""
    cubes = cubes_of(lines)
    told = {ruling: 0 for ruling in rulings}
    for index, (_, ruling) in enumerate(lines):
        told[ruling] += tally.first_met(cubes, index)
    told[otherwise] += tally.total - sum(list(told.values()))
    return told


def ruling_weight(tally, lines, otherwise, ruling):
    """Return the weight of the cases with a ruling; `otherwise` is that of cases that meet no line."""
    if ruling != otherwise:
        return weight_by_lines(tally, lines, [ruling])
    # The weight of the cases that meet no line takes the longest, so it is told by that of the others.
    return tally.total - weight_by_lines(tally, lines, [other for _, other in lines if other != ruling])


def others_weight(tally, lines, otherwise, ruling):
    """Return the weight of the cases with another ruling than this one, and not with None.

    The lines with None as their ruling stand ahead of all others.
    """
    if ruling == otherwise:
        return weight_by_lines(tally, lines, other_rulings(lines, otherwise, ruling))
    nowhere = [cube for cube, told in lines if told is None]
    return tally.none_met(nowhere) - weight_by_lines(tally, lines, [ruling])


def weight_by_lines(tally, lines, wanted):
    """Return the weight of the cases that have one of the wanted rulings by a line."""
    cubes = cubes_of(lines)
    return sum([tally.first_met(cubes, index) for index, line in enumerate(lines) if line[1] in wanted])


def other_rulings(lines, otherwise, ruling):
    """Return the list of all rulings of lines, and the one of no line, except for a ruling and None."""
    rulings = [told for _, told in lines] + [otherwise]
    return [other for other in rulings if other is not None and other != ruling]


def cheapest(prices, lines, otherwise, wanted, limit):
    """Return the lowest price of a case with one of the wanted rulings, and this ruling.

    If there is no such case below a limit, the price is not less than the limit, and the ruling is None.
    """
    cubes = cubes_of(lines)
    best = limit
    told = None
    for index, (_, ruling) in enumerate(lines):
        if ruling in wanted:
            price = prices.first_met(cubes, index, best)
            if price < best:
                best = price
                told = ruling
    price = prices.none_met(cubes, best) if otherwise in wanted else best
    return (price, otherwise) if price < best else (best, told)


def within_reach(free, lines, otherwise, wanted):
    """Tell whether there is a case with one of the wanted rulings, by prices that are all 0."""
    return cheapest(free, lines, otherwise, wanted, NEVER)[0] < NEVER


def deciding_names(free, rows):
    """Return the list of the names of the rules that decide a case, in the order of their rows."""
    cubes = cubes_of(rows)
    return [rule.name for index, (_, rule) in enumerate(rows) if free.first_met(cubes, index, NEVER) < NEVER]


def free_prices(book):
    """Return prices by which every case is had for 0, so that it only matters whether there is one."""
    return Prices([0 for _ in book.facts])
