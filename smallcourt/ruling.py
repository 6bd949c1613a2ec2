"""How a case is ruled: which rule decides, and which rules are read on the way."""

from smallcourt.facts import check_case
from smallcourt.walk import looked_into, steps


def decider(book, case):
    """Return the name of the rule that decides a case, or None."""
    names = way(book, case)
    return names[-1] if names else None


def outcome(book, case):
    """Return the tuple (ruling, decider) of a case."""
    return book(case), decider(book, case)


def way(book, case):
    """Return the list of the names of all rules that are looked into, the outermost first."""
    check_case(book.facts, case)
    return [rule.name for rule in looked_into(book.rules, case)]


def rules_looked_at(book, case):
    """Return the list of the names of all rules whose conditions are looked at, in order."""
    check_case(book.facts, case)
    return [rule.name for rule, _ in steps(book.rules, case)]
