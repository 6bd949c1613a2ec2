"""The examples of the document's interface."""

import unittest

from smallcourt.books import Book
from smallcourt.conditions import Condition
from smallcourt.counting import cases, counts, decided_by, idle_facts, idle_rules, nth_case, rank, share, swing
from smallcourt.errors import InvalidBook, InvalidCase, InvalidCondition
from smallcourt.facts import case_number, case_of
from smallcourt.reasons import core, is_reason, reason, turn, turn_to
from smallcourt.ruling import decider, rules_looked_at, way
from tests.helpers import FACTS
from tests.makers import example_book


class FirstStageTest(unittest.TestCase):
    def test_facts(self):
        self.assertEqual([case_number(FACTS, ("first", "owns")), case_of(FACTS, 6)], [5, ("late", "owns")])
        with self.assertRaises(InvalidCase) as caught:
            case_number(("first", "late"), ("late", "first"))
        self.assertEqual(caught.exception.index, 1)

    def test_conditions(self):
        condition = Condition(("late",), ("paid",))
        more = condition & Condition(("first",), ())
        told = [condition(("late", "owns")), condition(("late", "paid")), more.names, more.within(condition), len(more)]
        self.assertEqual(told, [True, False, ("first", "late", "paid"), True, 3])
        with self.assertRaises(InvalidCondition) as caught:
            Condition(("late",), ("late", "paid"))
        self.assertEqual((caught.exception.part, caught.exception.index), (1, 0))


class SecondStageTest(unittest.TestCase):
    def test_books(self):
        book = example_book()
        told = [book.names, book.rulings, len(book), book["fine"].depth, (book - "fine").names, "mild" in book]
        self.assertEqual(told, [["fine", "mild", "keep"], ["keep", "none", "pay", "warn"], 3, 2, ["keep"], True])
        with self.assertRaises(InvalidBook) as caught:
            Book(FACTS, (book["keep"], book["fine"], book["mild"]), "none")
        self.assertEqual((caught.exception.word, caught.exception.index), ("name", 3))
        told = [book(("first", "late")), book(("late", "owns")), book(("late", "owns", "paid")), book(())]
        self.assertEqual(told, ["warn", "pay", "keep", "none"])

    def test_ruling(self):
        book = example_book()
        told = [decider(book, ("first", "late")), way(book, ("first", "late"))]
        self.assertEqual(told, ["mild", ["fine", "mild"]])
        self.assertEqual(rules_looked_at(book, ("late", "owns", "paid")), ["fine", "keep"])

    def test_reasons(self):
        book = example_book()
        why = reason(book, ("late", "owns", "paid"))
        told = [why.holding, why.failing, turn(book, ("late",)), turn_to(book, ("late",), "keep")]
        self.assertEqual(told, [("owns", "paid"), (), (("first",), "warn"), ("late", "owns")])
        condition = Condition(("first", "late"), ("owns", "paid"))
        rest = core(book, ("first", "late"), condition)
        told = [is_reason(book, ("first", "late"), condition), rest.holding, rest.failing]
        self.assertEqual(told, [True, ("first", "late"), ("paid",)])

    def test_counting(self):
        book = example_book()
        told = [counts(book), decided_by(book, "mild"), decided_by(book, None), idle_rules(book)]
        self.assertEqual(told, [{"keep": 6, "none": 6, "pay": 2, "warn": 2}, 2, 6, []])
        told = [nth_case(book, "warn", 1), nth_case(book, "warn", 2), rank(book, ("first", "late", "owns"))]
        self.assertEqual(told, [("first", "late", "owns"), None, 1])
        self.assertEqual(list(cases(book, "pay", 0, 99)), [("late",), ("late", "owns")])
        told = [swing(book, "first"), idle_facts(book), share(book, "pay", {"late": (1, 4)})]
        self.assertEqual(told, [4, [], (1, 16)])


if __name__ == "__main__":
    unittest.main()
