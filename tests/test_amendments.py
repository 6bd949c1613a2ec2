import unittest

from smallcourt.amendments import amended
from smallcourt.books import Book, Rule
from smallcourt.conditions import Condition
from smallcourt.errors import CourtError, InvalidAmendment, InvalidBook, NoNeighbor, UnknownRule
from tests.helpers import FACTS, NOT_NAMES, many_facts
from tests.makers import AmendmentMaker, example_book, plain_amended, rule, small_books

ANY = (0, 1, -1, True, False, None, (), ("late",), [], ["late"], "", "late", "ninechars", "Late", example_book())
CONDITION = Condition(("paid",), ())
NEW = rule("new", ("paid",), (), "x", (rule("in", ("late",), (), "y"),))


class KindsTest(unittest.TestCase):
    def setUp(self):
        self.book = example_book()

    def tearDown(self):
        self.assertEqual(self.book, example_book())
        self.assertEqual(NEW, rule("new", ("paid",), (), "x", (rule("in", ("late",), (), "y"),)))

    def test_add(self):
        self.assertEqual(amended(self.book, ("add", None, NEW)), Book(FACTS, self.book.rules + (NEW,), "none"))
        made = amended(self.book, ("add", "fine", NEW))
        self.assertEqual(made.names, ["fine", "mild", "new", "in", "keep"])
        self.assertEqual(made["fine"].exceptions, (self.book["mild"], NEW))
        made = amended(self.book, ("add", "mild", NEW))
        self.assertEqual(made.names, ["fine", "mild", "new", "in", "keep"])
        self.assertEqual(made["mild"].exceptions, (NEW,))
        self.assertEqual(made["keep"], self.book["keep"])

    def test_before(self):
        self.assertEqual(amended(self.book, ("before", "fine", NEW)), Book(FACTS, (NEW,) + self.book.rules, "none"))
        self.assertEqual(amended(self.book, ("before", "keep", NEW)).names, ["fine", "mild", "new", "in", "keep"])
        self.assertEqual(amended(self.book, ("before", "keep", NEW)).rules[1], NEW)
        made = amended(self.book, ("before", "mild", NEW))
        self.assertEqual(made["fine"].exceptions, (NEW, self.book["mild"]))

    def test_strike(self):
        self.assertEqual(amended(self.book, ("strike", "fine")), self.book - "fine")
        self.assertEqual(amended(self.book, ("strike", "mild")).names, ["fine", "keep"])
        self.assertEqual(amended(self.book, ("strike", "fine")).names, ["keep"])

    def test_ruling(self):
        self.assertEqual(amended(self.book, ("ruling", None, "other")), Book(FACTS, self.book.rules, "other"))
        for name in self.book.names:
            made = amended(self.book, ("ruling", name, "other"))
            old = self.book[name]
            self.assertEqual(made[name], Rule(name, old.condition, "other", old.exceptions))
            self.assertEqual((made.names, made.ruling), (self.book.names, "none"))

    def test_condition(self):
        for name in self.book.names:
            made = amended(self.book, ("condition", name, CONDITION))
            old = self.book[name]
            self.assertEqual(made[name], Rule(name, CONDITION, old.ruling, old.exceptions))
            self.assertEqual(made.names, self.book.names)

    def test_swap(self):
        self.assertEqual(amended(self.book, ("swap", "fine")).names, ["keep", "fine", "mild"])
        more = amended(self.book, ("add", "fine", NEW))
        self.assertEqual(amended(more, ("swap", "mild")).names, ["fine", "new", "in", "mild", "keep"])
        for book, name in ((self.book, "mild"), (self.book, "keep"), (more, "new"), (more, "in")):
            with self.assertRaises(NoNeighbor):
                amended(book, ("swap", name))

    def test_amendments_that_change_nothing(self):
        self.assertEqual(amended(self.book, ("ruling", "fine", "pay")), self.book)
        self.assertEqual(amended(self.book, ("condition", "mild", self.book["mild"].condition)), self.book)
        self.assertEqual(amended(self.book, ("ruling", None, "none")), self.book)

    def test_many_amendments_of_small_books(self):
        maker = AmendmentMaker(81)
        made = 0
        for book in small_books(82, 100):
            for _ in range(10):
                amendment = maker.amendment(book)
                after = plain_amended(book, amendment)
                if after is None:
                    with self.assertRaises((UnknownRule, NoNeighbor, InvalidBook)):
                        amended(book, amendment)
                else:
                    self.assertEqual(amended(book, amendment), after)
                    book = after
                    made += 1
        self.assertGreater(made, 400)


class InvalidTest(unittest.TestCase):
    def assert_invalid(self, amendment):
        with self.assertRaises(InvalidAmendment):
            amended(example_book(), amendment)

    def test_no_tuples(self):
        for wrong in (*ANY, ["strike", "mild"], "strike mild", ["add", None, NEW], NEW, CONDITION):
            self.assert_invalid(wrong)

    def test_unknown_words(self):
        for word in (*ANY, "Strike", "strikes", "undo", "renew", "adds", ["add"], ("strike",)):
            self.assert_invalid((word,))
            self.assert_invalid((word, "mild"))
            self.assert_invalid((word, "mild", "other"))
            self.assert_invalid((word, "mild", NEW))
            self.assert_invalid((word, None, NEW))

    def test_a_part_too_few_or_too_many(self):
        for word in ("strike", "swap", "add", "before", "ruling", "condition"):
            self.assert_invalid((word,))
        for right in (("add", None, NEW), ("add", "fine", NEW), ("before", "fine", NEW), ("ruling", "fine", "x"),
                      ("ruling", None, "x"), ("condition", "fine", CONDITION), ("strike", "fine"), ("swap", "fine")):
            self.assertIsInstance(amended(example_book(), right), Book)
            self.assert_invalid(right[:-1])
            self.assert_invalid(right + (None,))
            self.assert_invalid(right + (right[-1],))
            self.assert_invalid(right + ((),))

    def test_names_that_are_no_names(self):
        for wrong in NOT_NAMES:
            self.assert_invalid(("strike", wrong))
            self.assert_invalid(("swap", wrong))
            self.assert_invalid(("before", wrong, NEW))
            self.assert_invalid(("condition", wrong, CONDITION))
            if wrong is not None:
                self.assert_invalid(("add", wrong, NEW))
                self.assert_invalid(("ruling", wrong, "x"))

    def test_third_parts_of_another_kind(self):
        for wrong in (*NOT_NAMES, CONDITION, NEW, example_book()):
            for name in ("fine", None):
                self.assert_invalid(("ruling", name, wrong))
        for wrong in (*ANY, NEW):
            self.assert_invalid(("condition", "fine", wrong))
        for wrong in (*ANY, CONDITION):
            self.assert_invalid(("add", None, wrong))
            self.assert_invalid(("add", "fine", wrong))
            self.assert_invalid(("before", "fine", wrong))

    def test_invalid_ahead_of_unknown(self):
        for amendment in (("ruling", "zoo", None), ("condition", "zoo", "late"), ("add", "zoo", None),
                          ("before", "zoo", CONDITION), ("strike", "zoo", None), ("swap", "zoo", "fine")):
            self.assert_invalid(amendment)

    def test_unknown_rules(self):
        large = rule("fine", ("zoo",))
        for name in ("zoo", "late", "none", "pay", "new"):
            for amendment in (("add", name, NEW), ("before", name, large), ("strike", name), ("ruling", name, "x"),
                              ("condition", name, Condition(("zoo",), ())), ("swap", name), ("add", name, large)):
                with self.assertRaises(UnknownRule):
                    amended(example_book(), amendment)


class InvalidBookTest(unittest.TestCase):
    def assert_wrong(self, book, amendment, word, index):
        with self.assertRaises(InvalidBook) as caught:
            amended(book, amendment)
        self.assertEqual((caught.exception.word, caught.exception.index), (word, index))

    def test_names_twice(self):
        book = example_book()
        self.assert_wrong(book, ("add", None, rule("mild")), "name", 3)
        self.assert_wrong(book, ("add", "fine", rule("fine")), "name", 2)
        self.assert_wrong(book, ("add", "fine", rule("keep")), "name", 3)
        self.assert_wrong(book, ("before", "fine", rule("fine")), "name", 1)
        self.assert_wrong(book, ("before", "keep", rule("a", exceptions=(rule("b"), rule("mild")))), "name", 4)
        self.assert_wrong(book, ("add", None, rule("a", exceptions=(rule("a"),))), "name", 4)

    def test_facts_that_are_none(self):
        book = example_book()
        self.assert_wrong(book, ("condition", "mild", Condition(("zoo",), ())), "condition", 1)
        self.assert_wrong(book, ("condition", "keep", Condition((), ("late", "zoo"))), "condition", 2)
        self.assert_wrong(book, ("add", "fine", rule("a", ("zoo",))), "condition", 2)
        self.assert_wrong(book, ("before", "fine", rule("a", (), (), "x", (rule("b", ("zoo",)),))), "condition", 1)

    def test_too_deep(self):
        deep = rule("a", exceptions=(rule("b", exceptions=(rule("c", exceptions=(rule("d"),)),)),))
        book = amended(example_book(), ("add", "mild", deep))
        self.assertEqual(book.names, ["fine", "mild", "a", "b", "c", "d", "keep"])
        self.assert_wrong(book, ("add", "d", rule("e")), "depth", 6)
        self.assert_wrong(example_book(), ("add", "mild", rule("z", exceptions=(deep,))), "depth", 6)
        self.assertEqual(amended(book, ("before", "d", rule("e")))["c"].exceptions, (rule("e"), rule("d")))

    def test_too_many(self):
        names = many_facts(60)
        full = Book(FACTS, (rule("a", exceptions=tuple(rule("b" + name) for name in names[:59])),), "n")
        self.assertEqual(len(full), 60)
        self.assert_wrong(full, ("add", None, rule("new")), "many", 60)
        self.assert_wrong(full, ("add", "a", rule("new")), "many", 60)
        self.assert_wrong(full, ("before", "a", NEW), "many", 60)
        self.assertEqual(len(amended(full, ("ruling", "a", "x"))), 60)
        wide = Book(FACTS, tuple(rule("b" + name) for name in names[:40]), "n")
        self.assert_wrong(wide, ("add", None, rule("new")), "many", 40)
        self.assert_wrong(wide, ("before", "baa", rule("new")), "many", 40)
        self.assertEqual(len(amended(wide, ("add", "baa", rule("new")))), 41)

    def test_all_are_errors_of_the_package(self):
        for amendment in (None, ("strike", "zoo"), ("swap", "keep"), ("add", None, rule("keep"))):
            with self.assertRaises(CourtError):
                amended(example_book(), amendment)


if __name__ == "__main__":
    unittest.main()
