"""Rulings on days on which some rules are not in force.

A force is a number with a bit for each line of the book that is in force, the lowest one for the first line.
"""

from smallcourt.cubes import meets
from smallcourt.lines import rows_of
from smallcourt.position import names_in


class Timetable:
    """The lines of a book, ruled by those of them that are in force."""

    def __init__(self, book):
        self.whole = book
        self.rows = rows_of(book)
        self.everything = (1 << len(self.rows)) - 1
        self.bits_met = {}

    def bits_within(self, name):
        """Return the bits of the lines of a rule and of all rules within it."""
        inside = names_in(self.whole[name])
        return sum([1 << index for index, (_, rule) in enumerate(self.rows) if rule.name in inside])

    def met(self, number):
        """Return the bits of the lines that the case with a number meets."""
        if number not in self.bits_met:
            bits = sum([1 << index for index, (cube, _) in enumerate(self.rows) if meets(number, cube)])
            self.bits_met[number] = bits
        return self.bits_met[number]

    def ruling_on(self, number, force):
        """Return the ruling of the case with a number by what is in force."""
        return self.ruling_by(self.met(number) & force)

    def ruling_by(self, bits):
        """Return the ruling of a case that meets the lines with some bits, all of them in force."""
        if bits == 0:
            return self.whole.ruling
        _, rule = self.rows[(bits & -bits).bit_length() - 1]
        return rule.ruling

    def lasting(self, number, forces):
        """Return the ruling that the case with a number has by each of the forces, or None."""
        found = sorted(set([self.met(number) & force for force in forces]))
        first = self.ruling_by(found[0])
        for bits in found:
            if self.ruling_by(bits) != first:
                return None
        return first
