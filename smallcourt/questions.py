"""How few questions settle a ruling.

A table is a tuple of the rulings of all cases over a few facts, by the numbers of the cases.
"""

from smallcourt.lines import ruling_at


class Questions:
    """Tries all questions about tables, each table only once."""

    def __init__(self):
        self.found = {}

    def fewest(self, table):
        """Return how many facts have to be known in the worst case until one ruling is left."""
        if all([ruling == table[0] for ruling in table]):
            return 0
        if table not in self.found:
            self.found[table] = min([self.fewest_from(table, place) for place in range(places_of(table))])
        return self.found[table]

    def fewest_from(self, table, place):
        """Return the same if the fact with a place is asked first."""
        return 1 + max([self.fewest(half(table, place, bit)) for bit in (0, 1)])

    def best_place(self, table):
        """Return the first place of a fact by which the fewest questions can be kept to."""
        return [self.fewest_from(table, place) for place in range(places_of(table))].index(self.fewest(table))


def places_of(table):
    """Return the number of facts of a table."""
    return len(table).bit_length() - 1


def half(table, place, bit):
    """Return the table of the cases in which the fact with a place holds, for 1, or fails, for 0."""
    return tuple([ruling for number, ruling in enumerate(table) if (number >> place) & 1 == bit])


def table_over(lines, otherwise, places):
    """Return the table of lines over the facts with some places; all other facts fail."""
    numbers = [0]
    for place in places:
        numbers = numbers + [number + (1 << place) for number in numbers]
    return tuple([ruling_at(lines, otherwise, number) for number in numbers])
