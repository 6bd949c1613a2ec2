import unittest

from smallcourt.books import Book, Rule
from smallcourt.conditions import Condition
from smallcourt.errors import InvalidBook, InvalidFacts, InvalidRule, UnknownRule
from tests.helpers import FACTS, NOT_NAMES, letters, many_facts
from tests.makers import BookMaker, example_book, rule


def nest(depth, name="n"):
    """A rule that has a rule within it, and so on, as many as depth tells."""
    inner = (nest(depth - 1, name),) if depth > 1 else ()
    return rule(name + letters(depth), exceptions=inner)


def beside(count, name="b"):
    return tuple(rule(name + letters(number)) for number in range(count))


class RuleTest(unittest.TestCase):
    def test_properties(self):
        inner = rule("mild")
        condition = Condition(("late",), ())
        made = Rule("fine", condition, "pay", (inner,))
        self.assertEqual(made.name, "fine")
        self.assertEqual(made.condition, condition)
        self.assertEqual(made.ruling, "pay")
        self.assertEqual(made.exceptions, (inner,))
        with self.assertRaises(AttributeError):
            made.name = "other"

    def test_wrong_names_and_rulings(self):
        for wrong in NOT_NAMES:
            for name, ruling, part in ((wrong, "pay", "name"), ("fine", wrong, "ruling"), (wrong, wrong, "name")):
                with self.assertRaises(InvalidRule) as caught:
                    Rule(name, Condition((), ()), ruling, ())
                self.assertEqual(caught.exception.part, part)

    def test_depth_and_length(self):
        self.assertEqual((rule("a").depth, len(rule("a"))), (1, 1))
        self.assertEqual((nest(6).depth, len(nest(6))), (6, 6))
        made = rule("a", exceptions=(nest(2), nest(4, "m"), rule("z")))
        self.assertEqual((made.depth, len(made)), (5, 8))

    def test_equality(self):
        def made(name="fine", holding=("late",), ruling="pay", inner="mild"):
            return rule(name, holding, (), ruling, (rule(inner),))
        self.assertIs(made() == made(), True)
        self.assertIs(made() != made(), False)
        for other in (made(name="x"), made(holding=()), made(ruling="x"), made(inner="x"), rule("fine", ("late",))):
            self.assertIs(made() == other, False)
            self.assertIs(made() != other, True)
        for other in (*NOT_NAMES, "fine", made().condition, example_book()):
            self.assertIs(made() == other, False)
            self.assertIs(made() != other, True)


class BookTest(unittest.TestCase):
    def assert_wrong(self, rules, word, index, facts=FACTS, ruling="none"):
        with self.assertRaises(InvalidBook) as caught:
            Book(facts, rules, ruling)
        self.assertEqual((caught.exception.word, caught.exception.index), (word, index))

    def test_properties(self):
        rules = (rule("b", ruling="y", exceptions=(rule("d", ruling="x"), rule("c", ruling="y"))), rule("a", ruling="z"))
        book = Book(FACTS, rules, "w")
        self.assertEqual((book.facts, book.rules, book.ruling), (FACTS, rules, "w"))
        self.assertEqual(book.names, ["b", "d", "c", "a"])
        self.assertEqual(book.rulings, ["w", "x", "y", "z"])
        self.assertEqual(len(book), 4)
        with self.assertRaises(AttributeError):
            book.ruling = "x"

    def test_without_rules(self):
        book = Book(("late",), (), "none")
        self.assertEqual((book.names, book.rulings, len(book), book(("late",))), ([], ["none"], 0, "none"))

    def test_what_is_returned_belongs_to_the_caller(self):
        book = example_book()
        book.names.append("more")
        book.rulings.clear()
        self.assertEqual(book.names, ["fine", "mild", "keep"])
        self.assertEqual(book.rulings, ["keep", "none", "pay", "warn"])

    def test_facts_ahead(self):
        for facts, index in (((), 0), (("b", "a"), 1), (many_facts(61), 60), ((None,), 0)):
            with self.assertRaises(InvalidFacts) as caught:
                Book(facts, (rule("a", ("x",)),), None)
            self.assertEqual(caught.exception.index, index)

    def test_names_once(self):
        inner = rule("b", exceptions=(rule("c"),))
        self.assert_wrong((rule("a"), rule("a")), "name", 1)
        self.assert_wrong((rule("a", exceptions=(inner,)), rule("c")), "name", 3)
        self.assert_wrong((rule("a", exceptions=(rule("a"),)),), "name", 1)
        self.assert_wrong((rule("c"), rule("a", exceptions=(inner,))), "name", 3)

    def test_conditions_name_facts(self):
        self.assert_wrong((rule("a", ("first", "other")),), "condition", 0)
        self.assert_wrong((rule("a", ("first",), (), "x", (rule("b", (), ("other",)),)),), "condition", 1)
        self.assertEqual(len(Book(FACTS, (rule("a", ("first", "late"), ("owns", "paid")),), "none")), 1)

    def test_depth(self):
        self.assertEqual(len(Book(FACTS, (nest(6),), "none")), 6)
        self.assert_wrong((nest(7),), "depth", 6)
        self.assert_wrong((rule("a"), nest(9), rule("b")), "depth", 7)

    def test_many_rules(self):
        full = tuple(rule("a" + letters(number), exceptions=beside(2, "c" + letters(number))) for number in range(20))
        self.assertEqual(len(Book(FACTS, full, "none")), 60)
        self.assert_wrong(full + (rule("z"),), "many", 60)
        self.assert_wrong((rule("a", exceptions=beside(60)),), "many", 60)
        self.assert_wrong((rule("a", exceptions=beside(70)),), "many", 60)

    def test_many_outermost(self):
        self.assertEqual(len(Book(FACTS, beside(40), "none")), 40)
        self.assert_wrong(beside(41), "many", 40)
        self.assert_wrong(beside(45), "many", 40)
        self.assert_wrong((rule("a", exceptions=beside(10, "x")),) + beside(40), "many", 50)
        self.assertEqual(len(Book(FACTS, (rule("a", exceptions=beside(41)),), "none")), 42)

    def test_ruling(self):
        for wrong in NOT_NAMES:
            self.assert_wrong((), "ruling", -1, ruling=wrong)
        self.assert_wrong((rule("a"), rule("a")), "name", 1, ruling=None)

    def test_first_word_of_one_rule(self):
        self.assert_wrong((rule("a"), rule("a", ("x",))), "name", 1)
        self.assert_wrong(beside(40) + (rule("z", ("x",)),), "condition", 40)
        self.assert_wrong(beside(40) + (rule("baa"),), "name", 40)
        for word, made in (("name", rule("a", ("x",))), ("condition", rule("z", ("x",))), ("depth", rule("z"))):
            for name in "fedcba":
                made = rule(name, exceptions=(made,))
            self.assert_wrong((made,), word, 6)

    def test_depth_ahead_of_many(self):
        filler = rule("a", exceptions=beside(53))
        self.assert_wrong((filler, nest(7)), "depth", 60)
        self.assert_wrong((filler, nest(6), rule("z")), "many", 60)

    def test_first_rule_by_number(self):
        self.assert_wrong((rule("a", exceptions=(rule("b", ("x",)),)), rule("a")), "condition", 1)
        self.assert_wrong((nest(7), rule("a", ("x",))), "depth", 6)
        self.assert_wrong((rule("a", ("x",)), rule("a")), "condition", 0)

    def test_in(self):
        book = example_book()
        for name in ("fine", "mild", "keep"):
            self.assertIs(name in book, True)
        for other in (*NOT_NAMES, "late", "none", "pay", book.rules[0]):
            self.assertIs(other in book, False)

    def test_item(self):
        book = example_book()
        self.assertEqual(book["fine"], book.rules[0])
        self.assertEqual(book["mild"], book.rules[0].exceptions[0])
        for other in (*NOT_NAMES, "late", -1):
            with self.assertRaises(UnknownRule):
                book[other]

    def test_difference(self):
        book = example_book()
        self.assertEqual((book - "fine"), Book(FACTS, (book["keep"],), "none"))
        self.assertEqual((book - "keep"), Book(FACTS, (book["fine"],), "none"))
        self.assertEqual((book - "mild")["fine"], rule("fine", ("late",), ("paid",), "pay"))
        self.assertEqual(book, example_book())
        for other in (*NOT_NAMES, "late", -1):
            with self.assertRaises(UnknownRule):
                book - other

    def test_difference_of_deep_rules(self):
        book = BookMaker(7).book(FACTS, 30, 6)
        for name in book.names:
            gone = [name] + inner_names(book[name])
            less = book - name
            self.assertEqual(less.names, [other for other in book.names if other not in gone])
            self.assertEqual(len(less), len(book) - len(book[name]))
            for other in less.names:
                if name not in inner_names(book[other]):
                    self.assertEqual(less[other], book[other])
            self.assertEqual((less.facts, less.ruling), (book.facts, book.ruling))

    def test_iteration(self):
        book = example_book()
        for call in (lambda: list(book), lambda: iter(book), lambda: [one for one in book], lambda: sorted(book)):
            with self.assertRaises(TypeError):
                call()

    def test_equality(self):
        book = example_book()
        self.assertIs(book == example_book(), True)
        self.assertIs(book != example_book(), False)
        unlike = (
            Book(FACTS + ("z",), book.rules, "none"), Book(FACTS, book.rules[::-1], "none"),
            Book(FACTS, book.rules, "other"), book - "mild", *NOT_NAMES, book.rules, book.rules[0],
        )
        for other in unlike:
            self.assertIs(book == other, False)
            self.assertIs(book != other, True)


def inner_names(one):
    found = []
    for inner in one.exceptions:
        found.extend([inner.name] + inner_names(inner))
    return found


if __name__ == "__main__":
    unittest.main()
