"""Books as lists of lines: without exceptions, and with cubes instead of conditions.

A line is a tuple (cube, ruling). Of the lines of a book, the first one that a case meets tells its
ruling; a case that meets none of them has the ruling of the book.
"""

from smallcourt.cubes import clash, cube_of, joined, meets, rest_of
from smallcourt.errors import InvalidRuling


def rows_of(book):
    """Return a list of tuples (cube, rule): of these, the first one that a case meets tells the rule that decides.

    Rules are left out if no case meets their condition and those of all rules within which they stand.
    """
    return rows_within(book.facts, book.rules, (0, 0))


def rows_within(facts, rules, around):
    """Return the same for rules that stand within others; `around` is the cube that meets all of those."""
    rows = []
    for rule in rules:
        own = cube_of(facts, rule.condition)
        if not clash(own, around):
            cube = joined(own, around)
            # A rule decides only where none of its exceptions does.
            rows.extend(rows_within(facts, rule.exceptions, cube))
            rows.append((cube, rule))
    return rows


def lines_of(book):
    """Return the list of the lines of a book."""
    return [(cube, rule.ruling) for cube, rule in rows_of(book)]


def cubes_of(lines):
    """Return the list of the cubes of lines."""
    return [cube for cube, _ in lines]


def narrowed_lines(lines, given):
    """Return the lines for the cases that meet a cube, the names of which are left out."""
    return [(rest_of(cube, given), ruling) for cube, ruling in lines if not clash(cube, given)]


def ruling_at(lines, otherwise, number):
    """Return the ruling of the case with a number; `otherwise` is that of the book."""
    for cube, ruling in lines:
        if meets(number, cube):
            return ruling
    return otherwise


def rulings_of_all(book):
    """Return the list of the rulings of all cases, by their numbers."""
    lines = lines_of(book)
    return [ruling_at(lines, book.ruling, number) for number in range(1 << len(book.facts))]


def check_ruling(book, ruling):
    """Raise InvalidRuling unless the ruling stands in the book."""
    if ruling not in book.rulings:
        raise InvalidRuling("the ruling does not stand in the book")
