"""Books for the tests, and a plain reader of them that shares no code with the program."""

import random

from smallcourt.books import Book, Rule
from smallcourt.conditions import Condition
from smallcourt.errors import InvalidBook
from tests.helpers import FACTS, all_cases, holds_for, letters


def rule(name, holding=(), failing=(), ruling="free", exceptions=()):
    return Rule(name, Condition(holding, failing), ruling, exceptions)


def example_book():
    mild = rule("mild", ("first",), (), "warn")
    fine = rule("fine", ("late",), ("paid",), "pay", (mild,))
    keep = rule("keep", ("owns",), (), "keep")
    return Book(FACTS, (fine, keep), "none")


def read(book, case):
    """Returns (ruling, way, looked at) as a plain reader finds them."""
    ruling, way, looked, beside = book.ruling, [], [], book.rules
    while True:
        for one in beside:
            looked.append(one.name)
            if holds_for(one.condition, case):
                way.append(one.name)
                ruling, beside = one.ruling, one.exceptions
                break
        else:
            return ruling, way, looked


def rulings(book):
    """The rulings of all cases, by number."""
    return [read(book, case)[0] for case in all_cases(book.facts)]


class BookMaker:
    """Makes books of some size; the same seed gives the same books."""

    def __init__(self, seed):
        self.random = random.Random(seed)

    def condition(self, facts, most):
        names = self.random.sample(facts, min(len(facts), self.random.randint(0, most)))
        holding = [name for name in names if self.random.random() < 0.6]
        failing = [name for name in names if name not in holding]
        return Condition(tuple(sorted(holding)), tuple(sorted(failing)))

    def rules(self, facts, names, depth, most, words):
        """Makes rules of all names, those of the first ones with the others as exceptions."""
        made = []
        while names:
            taken = 1 + (self.random.randint(0, len(names) - 1) if depth > 1 else 0)
            inner = self.rules(facts, names[1:taken], depth - 1, most, words)
            made.append(Rule(names[0], self.condition(facts, most), self.random.choice(words), inner))
            names = names[taken:]
        return tuple(made)

    def book(self, facts, count, depth=4, most=3, words=("a", "b", "c")):
        names = ["r" + letters(number) for number in range(count)]
        return Book(facts, self.rules(facts, names, depth, most, words), self.random.choice(words + ("d",)))

    def small(self):
        facts = tuple(sorted(self.random.sample(["ash", "bee", "cat", "dog", "elk"], self.random.randint(1, 5))))
        return self.book(facts, self.random.randint(0, 8))


def small_books(seed, count):
    maker = BookMaker(seed)
    return [maker.small() for _ in range(count)]


def beside_and_around(book):
    """A dict from names of rules to the names beside them, themselves included, and of those around them."""
    found = {}

    def walk(rules, around):
        for one in rules:
            found[one.name] = ([other.name for other in rules], around)
            walk(one.exceptions, around + [one.name])

    walk(book.rules, [])
    return found


def rebuilt(rules, name, change):
    """Rules in which the one with the name is what `change` returns for it, a list of rules."""
    made = []
    for one in rules:
        if one.name == name:
            made.extend(change(one))
        else:
            made.append(Rule(one.name, one.condition, one.ruling, rebuilt(one.exceptions, name, change)))
    return tuple(made)


def changed_book(maker, book, kind):
    """A book that differs in one thing from another one, which is returned itself if it has no rules."""
    if kind == "book":
        return Book(book.facts, book.rules, maker.random.choice("abcd"))
    if not book.names:
        return book
    name = maker.random.choice(book.names)
    changes = {
        "rule": lambda one: [],
        "condition": lambda one: [Rule(name, maker.condition(book.facts, 3), one.ruling, one.exceptions)],
        "ruling": lambda one: [Rule(name, one.condition, maker.random.choice("abcd"), one.exceptions)],
        "swap": lambda one: [Rule(name, one.condition, one.ruling, one.exceptions[::-1])],
    }
    return Book(book.facts, rebuilt(book.rules, name, changes[kind]), book.ruling)


def nested_book(seed, facts, count):
    """A book of deep rules, of which many are met."""
    maker = BookMaker(1000 + seed)
    return maker.book(tuple(["ash", "bee", "cat", "dog", "elk", "fox"][:facts]), count, 6, 2)


def statute_book():
    """The book of the document's examples from amendments on."""
    mild = rule("mild", ("first",), (), "warn")
    return Book(("first", "late", "paid"), (rule("late", ("late",), ("paid",), "fine", (mild,)),), "free")


def plain_amended(book, amendment):
    """The book after an amendment that can be made, or None if it cannot, as a plain reader finds it."""
    word, name, *more = amendment
    rules, ruling = book.rules, book.ruling
    places = beside_and_around(book)
    if name is not None and name not in places:
        return None
    if word == "swap":
        beside = places[name][0]
        place = beside.index(name)
        if place + 1 == len(beside):
            return None
        other = book[beside[place + 1]]
        rules = rebuilt(rebuilt(rules, other.name, lambda one: []), name, lambda one: [other, one])
    elif name is None and word == "ruling":
        ruling = more[0]
    elif name is None:
        rules = rules + tuple(more)
    else:
        changes = {
            "strike": lambda one: [],
            "before": lambda one: [more[0], one],
            "add": lambda one: [Rule(one.name, one.condition, one.ruling, one.exceptions + (more[0],))],
            "ruling": lambda one: [Rule(one.name, one.condition, more[0], one.exceptions)],
            "condition": lambda one: [Rule(one.name, more[0], one.ruling, one.exceptions)],
        }
        rules = rebuilt(rules, name, changes[word])
    try:
        return Book(book.facts, rules, ruling)
    except InvalidBook:
        return None


class AmendmentMaker(BookMaker):
    """Makes amendments, some of which cannot be made."""

    def amendment(self, book):
        name = self.random.choice(book.names + ["new"]) if self.random.random() < 0.9 else "zoo"
        word = self.random.choice(("add", "add", "before", "strike", "ruling", "ruling", "condition", "swap"))
        if word in ("strike", "swap"):
            return word, name
        if word in ("add", "ruling") and self.random.random() < 0.3:
            name = None
        if word == "ruling":
            return word, name, self.random.choice("abcd")
        if word == "condition":
            return word, name, self.condition(book.facts, 3)
        names = self.random.sample(["new", "old", "raa", "rab", "rac", "rad"], self.random.randint(1, 2))
        return word, name, self.rules(book.facts, names, 2, 2, ("a", "b", "c"))[0]

    def statute(self, book, count, longest):
        """A tuple of dated amendments that can be made, one after another."""
        dated = []
        day = 0
        while len(dated) < count:
            amendment = self.amendment(book)
            after = plain_amended(book, amendment)
            if after is not None:
                day += self.random.choice((0, 0, 1, 1, 2, longest))
                dated.append((day, amendment))
                book = after
        return tuple(dated)
