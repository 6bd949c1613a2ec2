"""Statutes: books with dated amendments, and what they tell of days."""

from smallcourt.amendments import amended, touched_names
from smallcourt.comparison import alike
from smallcourt.days import LAST_DAY, check_day, is_day
from smallcourt.errors import (
    InvalidAmendment,
    InvalidBook,
    InvalidNumber,
    InvalidStatute,
    NoNeighbor,
    TooMany,
    UnknownRule,
)
from smallcourt.facts import check_case, names_of
from smallcourt.lines import rulings_of_all
from smallcourt.names import check_word, is_integer
from smallcourt.ruling import outcome

MOST_AMENDMENTS = 60
MOST_FACTS_OF_ALL_CASES = 10


class Statute:
    """A book and a tuple of dated amendments, tuples (day, amendment)."""

    def __init__(self, book, amendments):
        # The book as it is before the amendment with each index, and at last after all of them.
        self._versions = [book]
        for index, dated in enumerate(amendments):
            if index == MOST_AMENDMENTS or not is_dated(dated, amendments[:index]):
                raise InvalidStatute(index)
            try:
                self._versions.append(amended(self._versions[index], dated[1]))
            except (InvalidAmendment, UnknownRule, NoNeighbor, InvalidBook):
                raise InvalidStatute(index) from None
        self._amendments = amendments

    @property
    def book(self):
        """The book without amendments."""
        return self._versions[0]

    @property
    def amendments(self):
        """The tuple of the dated amendments."""
        return self._amendments

    @property
    def days(self):
        """The ascending list of all days with amendments, each once."""
        return sorted(set([day for day, _ in self._amendments]))

    def __call__(self, day):
        """Return the book that is in force on a day."""
        check_day(day)
        return self._versions[len([begin for begin, _ in self._amendments if begin <= day])]

    def extended(self, dated):
        """Return the statute with one more dated amendment."""
        return Statute(self._versions[0], self._amendments + (dated,))


def is_dated(value, before):
    """Tell whether a value of any kind is a pair with a day that can stand behind other dated amendments."""
    if not isinstance(value, tuple) or len(value) != 2 or not is_day(value[0]):
        return False
    return not before or before[-1][0] <= value[0]


def ranges_of(statute):
    """Return the list of tuples (first day, last day, book), one for each range of days without amendments."""
    starts = [0] + [day for day in statute.days if day > 0]
    ends = [day - 1 for day in starts[1:]] + [LAST_DAY]
    return [(first, last, statute(first)) for first, last in zip(starts, ends)]


def rulings_by_day(statute, case):
    """Return the list of tuples (day, ruling, decider) of day 0, and of the days on which these become others."""
    check_case(statute.book.facts, case)
    found = []
    for first, _, book in ranges_of(statute):
        told = outcome(book, case)
        if not found or found[-1][1:] != told:
            found.append((first,) + told)
    return found


def stood(statute, name):
    """Return the list of the longest ranges (first, last) of days with a rule of this name; None for no end."""
    found = []
    begin = None
    for first, _, book in ranges_of(statute):
        if name in book:
            begin = first if begin is None else begin
        elif begin is not None:
            found.append((begin, first - 1))
            begin = None
    return found if begin is None else found + [(begin, None)]


def touched(statute, name):
    """Return the ascending list of the indexes of all amendments that touch the rule with this name."""
    found = []
    book = statute.book
    for index, (_, amendment) in enumerate(statute.amendments):
        if name in touched_names(book, amendment):
            found.append(index)
        book = amended(book, amendment)
    return found


def idle_amendments(statute):
    """Return the ascending list of the indexes of all amendments without which all rulings stay the same."""
    return [index for index in range(len(statute.amendments)) if is_idle(statute, index)]


def is_idle(statute, index):
    """Tell whether all cases have the same rulings on all days without the amendment with an index."""
    dated = statute.amendments
    try:
        other = Statute(statute.book, dated[:index] + dated[index + 1:])
    except InvalidStatute:
        return False
    for day in statute.days:
        if day >= dated[index][0] and not alike(statute(day), other(day)):
            return False
    return True


def undone_on(statute, index):
    """Return the first later day on which all cases are ruled as on the day before an amendment, or None."""
    if not is_integer(index) or not 0 <= index < len(statute.amendments):
        raise InvalidNumber("no amendment has this index")
    begin = statute.amendments[index][0]
    before = statute(begin - 1) if begin > 0 else statute.book
    # An amendment that changes no ruling is undone on the very next day.
    for day in sorted(set([begin + 1] + statute.days)):
        if begin < day <= LAST_DAY and alike(statute(day), before):
            return day
    return None


def first_turn_day(statute, case, ruling):
    """Return the first day on which a case has a ruling, or None."""
    check_case(statute.book.facts, case)
    check_word(ruling)
    for first, _, book in ranges_of(statute):
        if book(case) == ruling:
            return first
    return None


def count_days(statute, case, ruling, first, last):
    """Return on how many days, from the first to the last one, a case has a ruling."""
    check_case(statute.book.facts, case)
    check_word(ruling)
    check_day(first)
    check_day(last)
    many = 0
    for begin, end, book in ranges_of(statute):
        if book(case) == ruling:
            many += max(0, min(end, last) - max(begin, first) + 1)
    return many


def restless(statute):
    """Return the first case that has another ruling than the day before on the most days, and their number."""
    facts = statute.book.facts
    if len(facts) > MOST_FACTS_OF_ALL_CASES:
        raise TooMany("the book has more than ten facts")
    tables = [rulings_of_all(book) for _, _, book in ranges_of(statute)]
    turns = [turns_among([table[number] for table in tables]) for number in range(1 << len(facts))]
    most = max(turns)
    return names_of(facts, turns.index(most)), most


def turns_among(rulings):
    """Return how many of some rulings are unlike the one before them."""
    return len([place for place in range(1, len(rulings)) if rulings[place] != rulings[place - 1]])
