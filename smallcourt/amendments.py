"""Amendments: tuples of a word and what belongs to it, by which a book is changed."""

from smallcourt.books import Book, Rule, replaced
from smallcourt.comparison import swapped
from smallcourt.conditions import Condition
from smallcourt.errors import InvalidAmendment
from smallcourt.names import is_name
from smallcourt.position import names_in, next_beside, path_to

WORDS_WITH_NAME = ("strike", "swap")
WORDS_WITH_MORE = ("add", "before", "ruling", "condition")
WORDS_FOR_BOOKS = ("add", "ruling")


def amended(book, amendment):
    """Return the book after an amendment."""
    if not is_amendment(amendment):
        raise InvalidAmendment("this is no amendment")
    word = amendment[0]
    name = amendment[1]
    if name is None:
        return amended_book(book, word, amendment[2])
    # Without a rule of this name, each of these raises UnknownRule.
    if word == "strike":
        return book - name
    if word == "swap":
        return swapped(book, name)
    others = amended_rule(book[name], word, amendment[2])
    return Book(book.facts, replaced(book.rules, name, others), book.ruling)


def amended_book(book, word, new):
    """Return the book after an amendment of the book itself."""
    if word == "ruling":
        return Book(book.facts, book.rules, new)
    return Book(book.facts, book.rules + (new,), book.ruling)


def amended_rule(rule, word, new):
    """Return the tuple of the rules that stand in the place of a rule after an amendment with a third part."""
    if word == "before":
        return new, rule
    if word == "ruling":
        return (Rule(rule.name, rule.condition, new, rule.exceptions),)
    if word == "condition":
        return (Rule(rule.name, new, rule.ruling, rule.exceptions),)
    return (Rule(rule.name, rule.condition, rule.ruling, rule.exceptions + (new,)),)


def is_amendment(value):
    """Tell whether a value of any kind is an amendment."""
    if not isinstance(value, tuple) or not value:
        return False
    if value[0] in WORDS_WITH_NAME:
        return len(value) == 2 and is_name(value[1])
    if value[0] not in WORDS_WITH_MORE or len(value) != 3:
        return False
    word, name, new = value
    return (is_name(name) or (name is None and word in WORDS_FOR_BOOKS)) and is_new(word, new)


def is_new(word, value):
    """Tell whether a value of any kind is what the third part of an amendment with a word must be."""
    if word == "ruling":
        return is_name(value)
    if word == "condition":
        return isinstance(value, Condition)
    return isinstance(value, Rule)


def touched_names(book, amendment):
    """Return the list of the names of all rules that an amendment of a book touches, perhaps several times."""
    word = amendment[0]
    name = amendment[1]
    way = [rule.name for rule in path_to(book.rules, name)]
    if word == "add":
        return way + names_in(amendment[2])
    if word == "before":
        return way[:-1] + names_in(amendment[2])
    if word == "strike":
        return way + names_in(book[name])
    if word == "swap":
        return way + [next_beside(book, name).name]
    return way
