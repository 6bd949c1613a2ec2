"""Texts that show how a book rules."""

from smallcourt.errors import InvalidCase, TooMany, UnknownFact
from smallcourt.facts import names_of
from smallcourt.names import rises
from smallcourt.walk import looked_into

MOST_COLUMNS = 5


def explained(book, case):
    """Return a text that tells which rules are looked into for a case, and its ruling."""
    ruling = book(case)
    way = looked_into(book.rules, case)
    rows = ["  " * around + rule.name + ": " + told_condition(rule.condition) for around, rule in enumerate(way)]
    return "\n".join(rows + ["so " + ruling])


def told_condition(condition):
    """Return the facts of a condition in words."""
    told = list(condition.holding) + ["no " + name for name in condition.failing]
    return ", ".join(told) if told else "always"


def table(book, facts):
    """Return a text with a row for each case in which no other facts than these hold."""
    check_columns(book, facts)
    rows = []
    for number in range(1 << len(facts)):
        case = names_of(facts, number)
        signs = ["+" if fact in case else "-" for fact in facts]
        rows.append("".join(signs) + " " + book(case))
    return "\n".join(rows)


def check_columns(book, facts):
    """Raise an error unless these are one to five facts of a book, in ascending order."""
    if not facts:
        raise InvalidCase(0)
    for index, fact in enumerate(facts):
        if index == MOST_COLUMNS:
            raise TooMany("a table has at most five facts")
        if fact not in book.facts:
            raise UnknownFact("the book has no such fact")
        if not rises(facts, index):
            raise InvalidCase(index)
