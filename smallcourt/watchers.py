"""Watchers: what observed rulings tell of an unknown condition, or of an unknown order of rules."""

from smallcourt.amendments import amended
from smallcourt.conditions import Condition
from smallcourt.cubes import cube_of, meets
from smallcourt.errors import Contradiction, TooMany, UnknownRule
from smallcourt.facts import check_case, names_of
from smallcourt.lines import rulings_of_all
from smallcourt.names import check_word
from smallcourt.ruling import outcome
from smallcourt.walk import looked_into

MOST_FACTS = 10
MOST_ORDERED = 6


class ConditionWatcher:
    """A book of which the condition of one rule is not known, only that it has at most two names."""

    def __init__(self, book, name):
        if name not in book:
            raise UnknownRule("the book has no rule with this name")
        if len(book.facts) > MOST_FACTS:
            raise TooMany("the book has more than ten facts")
        # A case is ruled by the one book if it meets the condition of the rule, whichever that is, and by the
        # other one if it does not.
        self._with_rule = amended(book, ("condition", name, Condition((), ())))
        self._without_rule = book - name
        self._left = small_conditions(book.facts)
        self._seen = []

    @property
    def candidates(self):
        """The list of all remaining conditions."""
        return list(self._left)

    @property
    def records(self):
        """The list of all accepted observations, ("ruling", case, ruling) and ("decider", case, name)."""
        return list(self._seen)

    def see(self, case, ruling):
        """Record which ruling a case has, and return how many candidates remain."""
        met, unmet = self._outcomes(case)
        check_word(ruling)
        return self._accept(("ruling", case, ruling), met[0] == ruling, unmet[0] == ruling)

    def see_decider(self, case, name):
        """Record which rule decides a case, or None, and return how many candidates remain."""
        met, unmet = self._outcomes(case)
        if name is not None and name not in self._with_rule:
            raise UnknownRule("the book has no rule with this name")
        return self._accept(("decider", case, name), met[1] == name, unmet[1] == name)

    def possible(self, case):
        """Return the ascending list of all rulings that a case can have."""
        met, unmet = self._outcomes(case)
        return sorted(set([met[0] if condition(case) else unmet[0] for condition in self._left]))

    def telling(self):
        """Return the first case after whose ruling the fewest candidates remain in the worst case."""
        facts = self._with_rule.facts
        cubes = [cube_of(facts, condition) for condition in self._left]
        met = rulings_of_all(self._with_rule)
        unmet = rulings_of_all(self._without_rule)
        worst = []
        for number in range(len(met)):
            many = len([cube for cube in cubes if meets(number, cube)])
            worst.append(len(cubes) if met[number] == unmet[number] else max(many, len(cubes) - many))
        return names_of(facts, worst.index(min(worst)))

    def _outcomes(self, case):
        """Return what a case has if it meets the condition of the rule, and if it does not."""
        return outcome(self._with_rule, case), outcome(self._without_rule, case)

    def _accept(self, record, met, unmet):
        """Keep the candidates that the recorded case meets, if `met`, and those that it does not meet, if `unmet`."""
        case = record[1]
        left = [condition for condition in self._left if (met if condition(case) else unmet)]
        check_left(left)
        self._left = left
        self._seen.append(record)
        return len(left)


class OrderWatcher:
    """A book of which the order of its outermost rules is not known."""

    def __init__(self, book):
        if len(book.rules) > MOST_ORDERED:
            raise TooMany("the book has more than six outermost rules")
        self._book = book
        self._left = orders_of(len(book.rules))
        self._seen = []

    @property
    def order_count(self):
        """The number of orders that remain."""
        return len(self._left)

    @property
    def first_order(self):
        """The first order that remains, a tuple of names."""
        return tuple([self._book.rules[place].name for place in self._left[0]])

    @property
    def records(self):
        """The list of all accepted observations (case, ruling)."""
        return list(self._seen)

    def see(self, case, ruling):
        """Record which ruling a case has, and return how many orders remain."""
        check_case(self._book.facts, case)
        check_word(ruling)
        told = [ruling_within(rule, case) for rule in self._book.rules]
        left = [order for order in self._left if ruling_by(order, told, self._book.ruling) == ruling]
        check_left(left)
        self._left = left
        self._seen.append((case, ruling))
        return len(left)

    def sure(self, name, other):
        """Tell whether an outermost rule stands before another one in all orders that remain."""
        names = [rule.name for rule in self._book.rules]
        if name not in names or other not in names:
            raise UnknownRule("the book has no outermost rule with this name")
        first = names.index(name)
        second = names.index(other)
        return all([order.index(first) < order.index(second) for order in self._left])


def small_conditions(facts):
    """Return the list of all conditions of at most two names, by their number, then by the tuples."""
    parts = [(0, (), ())]
    for place, name in enumerate(facts):
        parts.extend([(1, (name,), ()), (1, (), (name,))])
        for other in facts[place + 1:]:
            parts.extend([(2, (name, other), ()), (2, (), (name, other))])
            parts.extend([(2, (name,), (other,)), (2, (other,), (name,))])
    return [Condition(holding, failing) for _, holding, failing in sorted(parts)]


def orders_of(count):
    """Return the ascending list of all orders of so many places, as tuples."""
    orders = [()]
    for _ in range(count):
        orders = [order + (place,) for order in orders for place in range(count) if place not in order]
    return orders


def ruling_within(rule, case):
    """Return the ruling of a case that is looked for in a rule and its exceptions, or None if it is not met."""
    way = looked_into((rule,), case)
    return way[-1].ruling if way else None


def ruling_by(order, told, otherwise):
    """Return the ruling by the first place of an order for which one is told, or the one of no place."""
    found = [told[place] for place in order if told[place] is not None]
    return found[0] if found else otherwise


def check_left(left):
    """Raise Contradiction if nothing is left."""
    if not left:
        raise Contradiction("nothing would remain")
