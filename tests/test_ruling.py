import unittest

from smallcourt.books import Book
from smallcourt.errors import InvalidCase
from smallcourt.ruling import decider, rules_looked_at, way
from tests.helpers import FACTS, NOT_NAMES, all_cases
from tests.makers import BookMaker, example_book, read, rule, small_books


class RulingTest(unittest.TestCase):
    def assert_read_alike(self, book, case):
        ruling, names, looked = read(book, case)
        self.assertEqual(book(case), ruling)
        self.assertEqual(way(book, case), names)
        self.assertEqual(rules_looked_at(book, case), looked)
        self.assertEqual(decider(book, case), names[-1] if names else None)

    def test_small_books(self):
        for book in small_books(1, 150):
            for case in all_cases(book.facts):
                self.assert_read_alike(book, case)

    def test_larger_books(self):
        maker = BookMaker(2)
        for depth in (1, 2, 3, 6):
            book = maker.book(("a", "b", "c", "d", "e", "f", "g"), 40, depth)
            for case in all_cases(book.facts):
                self.assert_read_alike(book, case)

    def test_no_rule_met(self):
        book = example_book()
        self.assertEqual((book(("first",)), decider(book, ("first",)), way(book, ("first",))), ("none", None, []))
        self.assertEqual(rules_looked_at(book, ("first",)), ["fine", "keep"])
        empty = Book(FACTS, (), "none")
        self.assertEqual((empty(()), decider(empty, ()), way(empty, ()), rules_looked_at(empty, ())), ("none", None, [], []))

    def test_exceptions_of_exceptions(self):
        third = rule("third", ("paid",), (), "z")
        second = rule("second", ("owns",), (), "y", (third,))
        book = Book(FACTS, (rule("one", ("late",), (), "x", (second,)), rule("other", (), (), "w")), "v")
        self.assertEqual([book(("late",)), book(("late", "owns")), book(FACTS), book(())], ["x", "y", "z", "w"])
        self.assertEqual(way(book, FACTS), ["one", "second", "third"])
        self.assertEqual(rules_looked_at(book, ("late", "paid")), ["one", "second"])
        self.assertEqual(rules_looked_at(book, ("paid",)), ["one", "other"])

    def test_wrong_cases(self):
        book = example_book()
        for call in (book, lambda case: decider(book, case), lambda case: way(book, case),
                     lambda case: rules_looked_at(book, case)):
            for case, index in ((("late", "first"), 1), (("other",), 0), (("first", "late", "late"), 2)):
                with self.assertRaises(InvalidCase) as caught:
                    call(case)
                self.assertEqual(caught.exception.index, index)
            for wrong in NOT_NAMES:
                with self.assertRaises(InvalidCase) as caught:
                    call(("first", wrong))
                self.assertEqual(caught.exception.index, 1)

    def test_lists_are_new(self):
        book = example_book()
        way(book, FACTS).append("x")
        rules_looked_at(book, FACTS).append("x")
        self.assertEqual((way(book, FACTS), rules_looked_at(book, FACTS)), (["keep"], ["fine", "keep"]))


if __name__ == "__main__":
    unittest.main()
