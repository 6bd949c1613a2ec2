"""Two lists of lines as one, and the cases that they rule otherwise.

A sided line is a tuple (cube, ruling, side); the side tells in which of the two lists it stands. Of the
sided lines of a list, the first one that a case meets tells its ruling there.

The cases that are ruled otherwise are told in parts, tuples (given, beyond, otherwise, ruling): those that
meet the cube `given` have the ruling in one list, and in the other one they are ruled by the lines `beyond`.
Of these, the first ones have no ruling; a case that meets one of them belongs to an earlier part, or to none.
"""

from smallcourt.cubes import rest_of
from smallcourt.lines import narrowed_lines
from smallcourt.outcomes import cheapest, other_rulings, others_weight
from smallcourt.prices import NEVER

BOTH = 0
FIRST = 1
SECOND = 2


def merged_lines(lines, others):
    """Return the sided lines of two lists; a line that stands in both at its place is there once."""
    alike = most_alike(lines, others)
    merged = []
    at = 0
    other_at = 0
    while at < len(lines) or other_at < len(others):
        if at < len(lines) and other_at < len(others) and lines[at] == others[other_at]:
            merged.append(lines[at] + (BOTH,))
            at += 1
            other_at += 1
        elif at < len(lines) and (other_at == len(others) or alike[at + 1][other_at] >= alike[at][other_at + 1]):
            merged.append(lines[at] + (FIRST,))
            at += 1
        else:
            merged.append(others[other_at] + (SECOND,))
            other_at += 1
    return merged


def most_alike(lines, others):
    """Return how many lines can be the same in both lists, from each place in the one and each in the other on."""
    rows = [[0 for _ in range(len(others) + 1)]]
    for line in lines[::-1]:
        below = rows[-1]
        row = [0]
        for place in reversed(range(len(others))):
            row.append(below[place + 1] + 1 if line == others[place] else max(below[place], row[-1]))
        rows.append(row[::-1])
    return rows[::-1]


def turned_parts(lines, otherwise, bit):
    """Return the parts for the cases in which a fact holds, and the same lines for those in which it fails."""
    sided = []
    for cube, ruling in lines:
        side = FIRST if cube[0] & bit else SECOND if cube[1] & bit else BOTH
        sided.append((rest_of(cube, (bit, bit)), ruling, side))
    return unlike_parts(sided, otherwise, otherwise)


def unlike_parts(sided, otherwise, other):
    """Return the list of the parts; `otherwise` and `other` are the rulings of cases that meet no line of a list."""
    parts = []
    for index, (cube, ruling, side) in enumerate(sided):
        if side != BOTH:
            parts.append((cube, lines_beyond(sided, index), other if side == FIRST else otherwise, ruling))
    if otherwise != other:
        parts.append(((0, 0), [(cube, None) for cube, _, _ in sided], other, otherwise))
    return parts


def lines_beyond(sided, index):
    """Return the lines of the other list by which the cases are ruled that meet the line with an index first."""
    given, _, side = sided[index]
    earlier = [(cube, None) for cube, _, _ in sided[:index]]
    later = [(cube, ruling) for cube, ruling, at in sided[index + 1:] if at != side]
    return narrowed_lines(earlier + later, given)


def unlike_weight(tally, parts):
    """Return the weight of the cases that are ruled otherwise."""
    weight = 0
    for given, beyond, otherwise, ruling in parts:
        weight += tally.met(given) * others_weight(tally, beyond, otherwise, ruling)
    return weight // tally.total


def cheapest_unlike(prices, parts):
    """Return the lowest price of a case that is ruled otherwise; it is not less than NEVER if there is none."""
    best = NEVER
    for given, beyond, otherwise, ruling in parts:
        price = prices.met(given)
        if price < best:
            wanted = other_rulings(beyond, otherwise, ruling)
            best = price + cheapest(prices, beyond, otherwise, wanted, best - price)[0]
    return best


def any_unlike(free, parts):
    """Tell whether a case is ruled otherwise, by prices that are all 0."""
    return cheapest_unlike(free, parts) < NEVER
