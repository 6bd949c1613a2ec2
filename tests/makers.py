"""Books for the tests, and a plain reader of them that shares no code with the program."""

import random

from smallcourt.books import Book, Rule
from smallcourt.conditions import Condition
from tests.helpers import FACTS, all_cases, holds_for, letters


def rule(name, holding=(), failing=(), ruling="free", exceptions=()):
    return Rule(name, Condition(holding, failing), ruling, exceptions)


def example_book():
    mild = rule("mild", ("first",), (), "warn")
    fine = rule("fine", ("late",), ("paid",), "pay", (mild,))
    keep = rule("keep", ("owns",), (), "keep")
    return Book(FACTS, (fine, keep), "none")


def read(book, case):
    """Returns (ruling, way, looked at) as a plain reader finds them."""
    ruling, way, looked, beside = book.ruling, [], [], book.rules
    while True:
        for one in beside:
            looked.append(one.name)
            if holds_for(one.condition, case):
                way.append(one.name)
                ruling, beside = one.ruling, one.exceptions
                break
        else:
            return ruling, way, looked


def rulings(book):
    """The rulings of all cases, by number."""
    return [read(book, case)[0] for case in all_cases(book.facts)]


class BookMaker:
    """Makes books of some size; the same seed gives the same books."""

    def __init__(self, seed):
        self.random = random.Random(seed)

    def condition(self, facts, most):
        names = self.random.sample(facts, min(len(facts), self.random.randint(0, most)))
        holding = [name for name in names if self.random.random() < 0.6]
        failing = [name for name in names if name not in holding]
        return Condition(tuple(sorted(holding)), tuple(sorted(failing)))

    def rules(self, facts, names, depth, most, words):
        """Makes rules of all names, those of the first ones with the others as exceptions."""
        made = []
        while names:
            taken = 1 + (self.random.randint(0, len(names) - 1) if depth > 1 else 0)
            inner = self.rules(facts, names[1:taken], depth - 1, most, words)
            made.append(Rule(names[0], self.condition(facts, most), self.random.choice(words), inner))
            names = names[taken:]
        return tuple(made)

    def book(self, facts, count, depth=4, most=3, words=("a", "b", "c")):
        names = ["r" + letters(number) for number in range(count)]
        return Book(facts, self.rules(facts, names, depth, most, words), self.random.choice(words + ("d",)))

    def small(self):
        facts = tuple(sorted(self.random.sample(["ash", "bee", "cat", "dog", "elk"], self.random.randint(1, 5))))
        return self.book(facts, self.random.randint(0, 8))


def small_books(seed, count):
    maker = BookMaker(seed)
    return [maker.small() for _ in range(count)]
