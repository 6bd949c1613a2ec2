import unittest
from itertools import product

from smallcourt.books import Book
from smallcourt.errors import CourtError, InvalidExample, InvalidFacts, InvalidNumber
from smallcourt.learning import first_misfit, least_book
from tests.helpers import FACTS, NOT_NAMES, all_cases, many_facts
from tests.makers import BookMaker, example_book, read, rule, small_books

NOT_CASES = (0, True, None, 1.5, "", "late", [], ["late"], (None,), (0,), (True,), ("zoo",), ("late", "first"), ("late", "late"),
             (("late",),), (["late"],), ("",), ("Late",))


def plain_least(facts, examples, most):
    """(conditions and rulings, the book's ruling) of the least book, by going through all books; None without one."""
    rulings = sorted({ruling for _, ruling in examples}) or ["none"]
    rows = [(name, failing, ruling) for name in facts for failing in (0, 1) for ruling in rulings]
    for count in range(most + 1):
        for chosen in product(rows, repeat=count):
            for otherwise in rulings:
                if all(ruled(chosen, otherwise, case) == ruling for case, ruling in examples):
                    return chosen, otherwise
    return None


def ruled(rows, otherwise, case):
    for name, failing, ruling in rows:
        if (name in case) != failing:
            return ruling
    return otherwise


def plain_book(facts, found):
    """The book that `plain_least` found."""
    rows, otherwise = found
    rules = []
    for letter, (name, failing, ruling) in zip("abc", rows):
        rules.append(rule(letter, () if failing else (name,), (name,) if failing else (), ruling))
    return Book(facts, tuple(rules), otherwise)


class ExampleMaker(BookMaker):
    def examples(self, facts, count, words):
        """Examples by a list of rules of one name each, with some mistakes."""
        rows = [(self.random.choice(facts), self.random.randint(0, 1), self.random.choice(words)) for _ in range(3)]
        cases = [self.random.choice(all_cases(facts)) for _ in range(count)]
        wrong = self.random.choice((0, 0, 0, 0.1))
        return [(case, self.random.choice(words) if self.random.random() < wrong else ruled(rows, words[0], case))
                for case in cases]


class MisfitTest(unittest.TestCase):
    def test_small_books(self):
        maker = BookMaker(341)
        found = []
        for book in small_books(342, 100):
            cases = [maker.random.choice(all_cases(book.facts)) for _ in range(maker.random.randint(0, 8))]
            examples = [(case, maker.random.choice([read(book, case)[0]] * 6 + ["a", "zoo"])) for case in cases]
            given = list(examples)
            wrong = [index for index, (case, ruling) in enumerate(examples) if read(book, case)[0] != ruling]
            expected = wrong[0] if wrong else None
            self.assertEqual(first_misfit(book, examples), expected)
            self.assertEqual(examples, given)
            found.append(len(wrong))
        self.assertGreater(found.count(0), 10)
        self.assertGreater(len(found) - found.count(0) - found.count(1), 10)

    def test_the_first_of_several(self):
        book = example_book()
        right, wrong = (("late",), "pay"), (("late",), "none")
        self.assertIsNone(first_misfit(book, []))
        self.assertIsNone(first_misfit(book, [right] * 50))
        self.assertEqual(first_misfit(book, [right, right, wrong, right, wrong]), 2)
        self.assertEqual(first_misfit(book, [right] * 50 + [wrong]), 50)
        self.assertEqual(first_misfit(book, [((), "zoo")]), 0)

    def test_wrong_examples(self):
        right, misfit = (("late",), "pay"), (("late",), "none")
        forms = (*NOT_NAMES, (), ((),), ((), "none", 0), "ab", [(), "none"], [("late",), "pay"])
        cases = [(case, "pay") for case in NOT_CASES]
        for wrong in (*forms, *cases, *[(("late",), wrong) for wrong in NOT_NAMES]):
            for before in ([], [right], [misfit, right]):
                with self.assertRaises(InvalidExample) as caught:
                    first_misfit(example_book(), before + [wrong, right, None])
                self.assertEqual(caught.exception.index, len(before))
                with self.assertRaises(InvalidExample) as caught:
                    least_book(FACTS, before + [wrong, right, None], 3)
                self.assertEqual(caught.exception.index, len(before))


class LeastTest(unittest.TestCase):
    def assert_least(self, facts, examples, most):
        given = list(examples)
        expected = plain_least(facts, examples, most)
        found = least_book(facts, examples, most)
        self.assertEqual(found, None if expected is None else plain_book(facts, expected))
        self.assertEqual(least_book(facts, examples, most), found)
        self.assertEqual(examples, given)
        if found is not None:
            self.assertIsNone(first_misfit(found, examples))
        return -1 if expected is None else len(expected[0])

    def test_up_to_two_rules(self):
        maker = ExampleMaker(343)
        sizes = []
        for _ in range(600):
            facts = tuple("abcd")[:maker.random.randint(1, 4)]
            examples = maker.examples(facts, maker.random.randint(0, 12), ("x", "y", "z"))
            sizes.append(self.assert_least(facts, examples, maker.random.randint(0, 2)))
        for size in (-1, 0, 1, 2):
            self.assertGreater(sizes.count(size), 15)

    def test_three_rules(self):
        maker = ExampleMaker(344)
        sizes = []
        for _ in range(150):
            facts = tuple("abc")[:maker.random.randint(2, 3)]
            sizes.append(self.assert_least(facts, maker.examples(facts, 12, ("x", "y", "z")), 3))
        for size in (-1, 3):
            self.assertGreater(sizes.count(size), 3)

    def test_all_rulings_of_two_facts(self):
        for told in product("xyz", repeat=4):
            self.assert_least(("a", "b"), list(zip(all_cases(("a", "b")), told)), 3)

    def test_no_examples(self):
        for most in range(4):
            self.assertEqual(least_book(FACTS, [], most), Book(FACTS, (), "none"))

    def test_a_book_without_rules(self):
        examples = [(("late",), "pay"), ((), "pay"), (("late",), "pay")]
        for most in range(4):
            self.assertEqual(least_book(FACTS, examples, most), Book(FACTS, (), "pay"))

    def test_the_first_of_several(self):
        examples = [((), "x"), (("a", "b"), "y")]
        self.assertEqual(least_book(("a", "b"), examples, 3), Book(("a", "b"), (rule("a", ("a",), (), "y"),), "x"))
        examples = [((), "x"), (("b",), "y")]
        self.assertEqual(least_book(("a", "b"), examples, 3), Book(("a", "b"), (rule("a", ("b",), (), "y"),), "x"))

    def test_contradictions(self):
        for most in range(4):
            self.assertIsNone(least_book(FACTS, [(("late",), "pay"), ((), "x"), (("late",), "free")], most))

    def test_at_most_so_many(self):
        examples = [(("late",), "fine"), (("late", "paid"), "free"), ((), "free")]
        self.assertEqual([least_book(("late", "paid"), examples, most) for most in (0, 1)], [None, None])
        self.assertEqual(least_book(("late", "paid"), examples, 3).names, ["a", "b"])
        self.assertEqual(least_book(("late", "paid"), examples, 2), least_book(("late", "paid"), examples, 3))

    def test_names_of_rules(self):
        facts = ("p", "q", "r", "s")
        examples = [((), "n"), (("p",), "x"), (("p", "q"), "y"), (("p", "q", "r"), "z"), (("q", "r"), "z"), (("q",), "y"), (("r",), "z")]
        found = least_book(facts, examples, 3)
        self.assertEqual((found.names, [one.depth for one in found.rules]), (["a", "b", "c"], [1, 1, 1]))
        self.assertEqual(self.assert_least(facts[:3], examples, 3), 3)

    def test_eight_facts_and_forty_examples(self):
        facts = tuple("abcdefgh")
        rows = [("h", 0, "x"), ("d", 1, "y"), ("f", 0, "x")]
        examples = [(case, ruled(rows, "y", case)) for case in all_cases(facts)[::6][:40]]
        found = least_book(facts, examples, 3)
        self.assertEqual(len(examples), 40)
        self.assertIsNone(first_misfit(found, examples))
        self.assertEqual(self.assert_least(facts, examples, 1), -1)
        for number, more in ((40, examples[:1]), (40, [None]), (39, [None, None])):
            with self.assertRaises(InvalidExample) as caught:
                least_book(facts, examples[:number] + more, 3)
            self.assertEqual(caught.exception.index, number)


class ErrorsTest(unittest.TestCase):
    def assert_facts(self, facts, index):
        for examples, most in (([], 3), ([None], None)):
            with self.assertRaises(InvalidFacts) as caught:
                least_book(facts, examples, most)
            self.assertEqual(caught.exception.index, index)

    def test_facts(self):
        self.assert_facts((), 0)
        self.assert_facts(many_facts(9), 8)
        self.assert_facts(many_facts(61), 8)
        self.assert_facts(many_facts(8) + (None,), 8)
        self.assert_facts(many_facts(10) + (None,), 8)
        self.assert_facts(("late", "first"), 1)
        self.assert_facts(("late", "late"), 1)
        for wrong in NOT_NAMES:
            self.assert_facts((wrong,), 0)
            self.assert_facts(("first", "late", wrong) + many_facts(9), 2)
        self.assertEqual(least_book(many_facts(8), [], 0).facts, many_facts(8))

    def test_numbers(self):
        for wrong in (-1, 4, 10 ** 20, True, False, None, "1", 1.0, (), [1]):
            with self.assertRaises(InvalidNumber):
                least_book(FACTS, [((), "x")], wrong)
            with self.assertRaises(InvalidNumber):
                least_book(FACTS, [], wrong)
            with self.assertRaises(InvalidExample):
                least_book(FACTS, [((), "x"), ((), None)], wrong)

    def test_all_are_errors_of_the_package(self):
        for call in (lambda: least_book((), [], 0), lambda: least_book(FACTS, [0], 0), lambda: least_book(FACTS, [], 9)):
            with self.assertRaises(CourtError):
                call()


if __name__ == "__main__":
    unittest.main()
