"""Other shapes of a book: without exceptions, with fewer rules, with fewer facts."""

from smallcourt.books import MOST_OUTERMOST, Book, Rule
from smallcourt.conditions import MOST_NAMES, Condition
from smallcourt.cubes import clash, cube_of, rest_of
from smallcourt.errors import InvalidCondition, NoFacts, TooMany
from smallcourt.facts import names_of
from smallcourt.lines import rows_of
from smallcourt.outcomes import free_prices
from smallcourt.position import names_in
from smallcourt.sides import BOTH, FIRST, any_unlike, unlike_parts


def flat(book):
    """Return a book without exceptions that rules all cases alike."""
    rows = rows_of(book)
    if len(rows) > MOST_OUTERMOST:
        raise TooMany("more than 40 rules remain")
    if any([len(names_of(book.facts, cube[0] | cube[1])) > MOST_NAMES for cube, _ in rows]):
        raise TooMany("a condition has more than eight names")
    rules = [Rule(rule.name, condition_of(book.facts, cube), rule.ruling, ()) for cube, rule in rows]
    return Book(book.facts, tuple(rules), book.ruling)


def lean(book):
    """Return the book without the rules that it does not need, the last ones left out first."""
    kept = book
    for name in book.names[::-1]:
        if not is_needed(kept, name):
            kept = kept - name
    return kept


def is_needed(book, name):
    """Tell whether a case is ruled otherwise if a rule is left out with its exceptions."""
    inside = names_in(book[name])
    sided = [(cube, rule.ruling, FIRST if rule.name in inside else BOTH) for cube, rule in rows_of(book)]
    return any_unlike(free_prices(book), unlike_parts(sided, book.ruling, book.ruling))


def under(book, condition):
    """Return the book of the cases that meet a condition, without the facts that it names."""
    if any([name not in book.facts for name in condition.names]):
        raise InvalidCondition(0, 0)
    facts = tuple([fact for fact in book.facts if fact not in condition.names])
    if not facts:
        raise NoFacts("no facts remain")
    return Book(facts, rules_under(book.facts, book.rules, cube_of(book.facts, condition)), book.ruling)


def rules_under(facts, rules, given):
    """Return the tuple of what remains of rules for the cases that meet a cube."""
    kept = []
    for rule in rules:
        cube = cube_of(facts, rule.condition)
        if not clash(cube, given):
            inner = rules_under(facts, rule.exceptions, given)
            kept.append(Rule(rule.name, condition_of(facts, rest_of(cube, given)), rule.ruling, inner))
    return tuple(kept)


def condition_of(facts, cube):
    """Return the condition that a cube stands for."""
    return Condition(names_of(facts, cube[0]), names_of(facts, cube[1]))
