"""Seasons: books of which some rules are in force on some days only."""

from math import lcm

from smallcourt.days import check_day
from smallcourt.errors import InvalidSpan, TooMany, UnknownRule
from smallcourt.facts import bits_of, check_case
from smallcourt.names import check_word, is_integer
from smallcourt.timetable import Timetable

LONGEST_SPAN = 100
LONGEST_PERIOD = 5000
MOST_FACTS = 10


class Seasons:
    """A book, and spans of days for some of its rules."""

    def __init__(self, book, spans):
        check_spans(book, spans)
        self._book = book
        self._spans = {name: spans[name] for name in spans}
        self._period = 1
        for period, _, _ in spans.values():
            self._period = lcm(self._period, period)

    @property
    def book(self):
        """The book with all of its rules."""
        return self._book

    @property
    def spans(self):
        """The dict from names of rules to tuples (period, first, count)."""
        return {name: self._spans[name] for name in self._spans}

    @property
    def period(self):
        """The number of days after which all spans begin anew."""
        return self._period

    def __call__(self, day):
        """Return the book of a day."""
        check_day(day)
        book = self._book
        for name, span in self._spans.items():
            # A rule may be gone already, with the one within which it stands.
            if name in book and not in_span(span, day):
                book = book - name
        return book


def check_spans(book, spans):
    """Raise UnknownRule for keys that are no names of rules, then InvalidSpan for the first wrong tuple."""
    if any([name not in book for name in spans]):
        raise UnknownRule("the book has no rule with this name")
    for name, span in spans.items():
        if not is_span(span):
            raise InvalidSpan(name)


def is_span(value):
    """Tell whether a value of any kind is a tuple (period, first, count) of numbers in their ranges."""
    if not isinstance(value, tuple) or len(value) != 3 or not all([is_integer(number) for number in value]):
        return False
    period, first, count = value
    return 1 <= period <= LONGEST_SPAN and 0 <= first < period and 1 <= count <= period


def in_span(span, day):
    """Tell whether a day is in a span, or differs from a day in it by a multiple of the period."""
    period, first, count = span
    return (day - first) % period < count


def count_rulings(seasons, case, days):
    """Return a dict from all rulings, ascending, to on how many of the first so many days a case has them."""
    check_case(seasons.book.facts, case)
    check_day(days)
    check_period(seasons)
    rulings = rulings_of_period(seasons, case)
    told = {ruling: 0 for ruling in seasons.book.rulings}
    for day, ruling in enumerate(rulings):
        # The days before `days` that differ from this one by a multiple of the period.
        told[ruling] += (days - day + seasons.period - 1) // seasons.period
    return told


def next_day(seasons, case, ruling, day):
    """Return the first day from this one on, on which a case has a ruling, or None."""
    check_case(seasons.book.facts, case)
    check_word(ruling)
    check_day(day)
    check_period(seasons)
    rulings = rulings_of_period(seasons, case)
    for later in range(seasons.period):
        if rulings[(day + later) % seasons.period] == ruling:
            return day + later
    return None


def always(seasons):
    """Return the dict from all rulings, ascending, to how many cases have them on every day."""
    check_period(seasons)
    book = seasons.book
    if len(book.facts) > MOST_FACTS:
        raise TooMany("the book has more than ten facts")
    table = Timetable(book)
    forces = sorted(set(forces_of_period(seasons, table)))
    told = {ruling: 0 for ruling in book.rulings}
    for number in range(1 << len(book.facts)):
        ruling = table.lasting(number, forces)
        if ruling is not None:
            told[ruling] += 1
    return told


def check_period(seasons):
    """Raise TooMany if the period is more than 5,000 days."""
    if seasons.period > LONGEST_PERIOD:
        raise TooMany("the period is more than 5,000 days")


def rulings_of_period(seasons, case):
    """Return the list of the rulings of a case on all days of a period."""
    table = Timetable(seasons.book)
    number = bits_of(seasons.book.facts, case)
    return [table.ruling_on(number, force) for force in forces_of_period(seasons, table)]


def forces_of_period(seasons, table):
    """Return the list of what is in force on all days of a period, by a timetable."""
    spans = seasons.spans
    bits = {name: table.bits_within(name) for name in spans}
    forces = []
    for day in range(seasons.period):
        gone = 0
        for name, span in spans.items():
            if not in_span(span, day):
                gone = gone | bits[name]
        forces.append(table.everything & ~gone)
    return forces
