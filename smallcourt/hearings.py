"""Hearings, in which facts become known one by one."""

from smallcourt.errors import AlreadyKnown, TooMany, UnknownFact
from smallcourt.facts import bits_of, check_case
from smallcourt.lines import cubes_of, lines_of, narrowed_lines, rows_of
from smallcourt.outcomes import deciding_names, free_prices, weights_by_ruling, within_reach
from smallcourt.prices import NEVER
from smallcourt.questions import Questions, table_over
from smallcourt.sides import any_unlike, turned_parts
from smallcourt.tally import plain_tally

MOST_MATTERING = 8


class Hearing:
    """A book and the facts of which it is known whether they hold."""

    def __init__(self, book):
        self._book = book
        self._told = []

    @property
    def book(self):
        """The book by which is ruled."""
        return self._book

    @property
    def known(self):
        """The dict from the known facts, in the order in which they were told, to booleans."""
        return {fact: holds for fact, holds in self._told}

    def tell(self, fact, holds):
        """Make a fact known, and return the list of the rulings that are still possible."""
        check_fact(self._book, self.known, fact)
        self._told.append((fact, holds))
        return self.possible()

    def take_back(self):
        """Take the last told fact back, and return its name, or None."""
        if not self._told:
            return None
        fact, _ = self._told.pop()
        return fact

    def possible(self):
        """Return the ascending list of the rulings that are possible."""
        return rulings_left(self._book, self.known)

    def settled(self):
        """Return the ruling if it is the only possible one, otherwise None."""
        rulings = self.possible()
        return rulings[0] if len(rulings) == 1 else None

    def deciders(self):
        """Return the list of the names of the rules that can still decide, and None if perhaps none does."""
        rows = narrowed_lines(rows_of(self._book), given_by(self._book, self.known))
        free = free_prices(self._book)
        deciding = deciding_names(free, rows)
        names = [name for name in self._book.names if name in deciding]
        return names + [None] if free.none_met(cubes_of(rows), NEVER) < NEVER else names

    def open_count(self):
        """Return the number of cases that are possible."""
        return 1 << (len(self._book.facts) - len(self._told))

    def possible_after(self, fact, holds):
        """Return what `tell` would return, without telling."""
        known = self.known
        check_fact(self._book, known, fact)
        known[fact] = holds
        return rulings_left(self._book, known)


def fewest_questions(hearing):
    """Return how many more facts have to be known in the worst case until the ruling is settled."""
    places = mattering_places(hearing)
    return Questions().fewest(table_left(hearing, places))


def next_question(hearing):
    """Return the first fact with which the number of questions can be kept to, or None if it is settled."""
    places = mattering_places(hearing)
    if not places:
        return None
    return hearing.book.facts[places[Questions().best_place(table_left(hearing, places))]]


def best_guess(hearing):
    """Return the ruling that most of the possible cases have, of several the first."""
    book = hearing.book
    weights = weights_by_ruling(plain_tally(book), lines_left(book, hearing.known), book.ruling, book.rulings)
    most = max(list(weights.values()))
    return [ruling for ruling in weights if weights[ruling] == most][0]


def hear(book, case, facts):
    """Return the ruling of a case, and the number of asked facts after which it was settled, or None."""
    check_case(book.facts, case)
    for index, fact in enumerate(facts):
        check_fact(book, facts[:index], fact)
    for count in range(len(facts) + 1):
        known = {fact: fact in case for fact in facts[:count]}
        if len(rulings_left(book, known)) == 1:
            return book(case), count
    return book(case), None


def check_fact(book, known, fact):
    """Raise UnknownFact for what is no fact, then AlreadyKnown for one of those that are known."""
    if fact not in book.facts:
        raise UnknownFact("the book has no such fact")
    if fact in known:
        raise AlreadyKnown("the fact is known already")


def given_by(book, known):
    """Return the cube of the cases that are possible; `known` is a dict from facts to booleans."""
    holding = [fact for fact in known if known[fact]]
    return bits_of(book.facts, holding), bits_of(book.facts, [fact for fact in known if not known[fact]])


def lines_left(book, known):
    """Return the lines by which the possible cases are ruled."""
    return narrowed_lines(lines_of(book), given_by(book, known))


def table_left(hearing, places):
    """Return the table of the possible cases over the facts with some places."""
    return table_over(lines_left(hearing.book, hearing.known), hearing.book.ruling, places)


def rulings_left(book, known):
    """Return the ascending list of the rulings of the possible cases."""
    lines = lines_left(book, known)
    free = free_prices(book)
    return [ruling for ruling in book.rulings if within_reach(free, lines, book.ruling, [ruling])]


def mattering_places(hearing):
    """Return the ascending list of the places of the facts that matter; TooMany for more than eight."""
    book = hearing.book
    known = hearing.known
    lines = lines_left(book, known)
    free = free_prices(book)
    unknown = [place for place, fact in enumerate(book.facts) if fact not in known]
    places = [place for place in unknown if any_unlike(free, turned_parts(lines, book.ruling, 1 << place))]
    if len(places) > MOST_MATTERING:
        raise TooMany("more than eight facts matter")
    return places
