"""Where a rule stands in a book: within which others, and beside which."""

from smallcourt.books import nested
from smallcourt.errors import NoNeighbor, UnknownRule


def path_to(rules, name):
    """Return the list of the rules within which a rule stands, the outermost first, and itself; empty without it."""
    for rule in rules:
        if rule.name == name:
            return [rule]
        inner = path_to(rule.exceptions, name)
        if inner:
            return [rule] + inner
    return []


def next_beside(book, name):
    """Return the rule directly behind the one with the name, beside it."""
    path = path_to(book.rules, name)
    if not path:
        raise UnknownRule("the book has no rule with this name")
    beside = path[-2].exceptions if len(path) > 1 else book.rules
    place = [rule.name for rule in beside].index(name) + 1
    if place == len(beside):
        raise NoNeighbor("the rule is the last one beside others")
    return beside[place]


def names_in(rule):
    """Return the list of the names of a rule and of all rules within it, by their numbers."""
    return [inner.name for inner, _ in nested((rule,), 0)]
