import unittest

from smallcourt.books import Book
from smallcourt.counting import cases, counts, decided_by, idle_rules, nth_case, rank
from smallcourt.errors import InvalidCase, InvalidNumber, InvalidRuling, UnknownRule
from smallcourt.facts import case_of
from tests.helpers import FACTS, NOT_NAMES, all_cases, many_facts
from tests.makers import BookMaker, example_book, read, rule, rulings, small_books


class SmallBooksTest(unittest.TestCase):
    def assert_counted(self, book):
        found = rulings(book)
        told = counts(book)
        self.assertEqual(list(told.items()), [(ruling, found.count(ruling)) for ruling in sorted(book.rulings)])
        ways = [read(book, case)[1] for case in all_cases(book.facts)]
        deciders = [names[-1] if names else None for names in ways]
        for name in book.names + [None]:
            self.assertEqual(decided_by(book, name), deciders.count(name))
        self.assertEqual(idle_rules(book), [name for name in book.names if name not in deciders])

    def assert_listed(self, book):
        found = rulings(book)
        for ruling in book.rulings:
            mine = [case for case, other in zip(all_cases(book.facts), found) if other == ruling]
            self.assertEqual([nth_case(book, ruling, number) for number in range(len(mine))], mine)
            self.assertIsNone(nth_case(book, ruling, len(mine)))
            self.assertIsNone(nth_case(book, ruling, len(mine) + 7))
            self.assertEqual([rank(book, case) for case in mine], list(range(len(mine))))
            self.assertEqual(list(cases(book, ruling, 0, 9999)), mine)

    def test_small_books(self):
        for book in small_books(11, 150):
            self.assert_counted(book)
            self.assert_listed(book)

    def test_nine_facts(self):
        maker = BookMaker(12)
        for depth, most in ((1, 4), (2, 6), (4, 4), (6, 8)):
            book = maker.book(many_facts(9), 30, depth, most)
            self.assert_counted(book)
            found = rulings(book)
            for number in range(0, 2 ** 9, 37):
                case = case_of(book.facts, number)
                place = found[:number].count(found[number])
                self.assertEqual(rank(book, case), place)
                self.assertEqual(nth_case(book, found[number], place), case)

    def test_cubes_of_all_lengths(self):
        for most in range(1, 9):
            maker = BookMaker(100 + most)
            facts = many_facts(10)
            rules = []
            while len(rules) < 25:
                condition = maker.condition(facts, most)
                if len(condition) == most:
                    word = maker.random.choice("abc")
                    rules.append(rule("r" + facts[0] + chr(97 + len(rules)), condition.holding, condition.failing, word))
            self.assert_counted(Book(facts, tuple(rules), "d"))


class DecidedTest(unittest.TestCase):
    def test_unknown_rules(self):
        for wrong in NOT_NAMES:
            if wrong is not None:
                with self.assertRaises(UnknownRule):
                    decided_by(example_book(), wrong)
        for wrong in ("late", "none"):
            with self.assertRaises(UnknownRule):
                decided_by(example_book(), wrong)

    def test_rules_that_are_never_met(self):
        inner = rule("b", (), ("late",), "x", (rule("c", (), (), "y"),))
        book = Book(FACTS, (rule("a", ("late",), (), "w", (inner,)), rule("d", ("late", "paid"), (), "z")), "v")
        self.assertEqual([decided_by(book, name) for name in ("a", "b", "c", "d", None)], [8, 0, 0, 0, 8])
        self.assertEqual(idle_rules(book), ["b", "c", "d"])
        self.assertEqual(counts(book), {"v": 8, "w": 8, "x": 0, "y": 0, "z": 0})

    def test_rule_whose_exceptions_decide_all(self):
        book = Book(("a", "b"), (rule("r", (), (), "x", (rule("s", ("a",)), rule("t", (), ("a",)))),), "z")
        self.assertEqual(idle_rules(book), ["r"])
        self.assertEqual(decided_by(book, None), 0)

    def test_results_belong_to_the_caller(self):
        book = example_book()
        counts(book).clear()
        idle_rules(book).append("x")
        self.assertEqual(counts(book), {"keep": 6, "none": 6, "pay": 2, "warn": 2})
        self.assertEqual(idle_rules(book), [])


class ListedTest(unittest.TestCase):
    def test_rulings_that_no_case_has(self):
        book = Book(FACTS, (rule("a", (), (), "x"), rule("b", (), (), "y")), "z")
        for ruling in ("y", "z"):
            self.assertIsNone(nth_case(book, ruling, 0))
            self.assertEqual(list(cases(book, ruling, 0, 100)), [])
            self.assertEqual(counts(book)[ruling], 0)

    def test_wrong_rulings(self):
        book = example_book()
        for wrong in (*NOT_NAMES, "late", "fine"):
            with self.assertRaises(InvalidRuling):
                nth_case(book, wrong, None)
            with self.assertRaises(InvalidRuling):
                list(cases(book, wrong, 5, 0))

    def test_numbers_of_nth_case(self):
        book = example_book()
        self.assertEqual(nth_case(book, "none", 0), ())
        self.assertIsNone(nth_case(book, "none", 2 ** 60))
        for wrong in (-1, 2 ** 60 + 1, True, False, None, "0", 0.0, (), [0], -2 ** 65):
            with self.assertRaises(InvalidNumber):
                nth_case(book, "none", wrong)

    def test_numbers_of_cases(self):
        book = example_book()
        self.assertEqual(list(cases(book, "none", 0, 0)), [()])
        self.assertEqual(list(cases(book, "keep", 4, 6)), [("owns",), ("first", "owns")])
        self.assertEqual(list(cases(book, "keep", 15, 15)), [FACTS])
        self.assertEqual(list(cases(book, "keep", 16, 200)), [])
        self.assertEqual(list(cases(book, "keep", 2 ** 60, 2 ** 60)), [])
        wrong = (-1, 2 ** 60 + 1, True, False, None, "0", 1.0, (), [0])
        pairs = [(one, 5) for one in wrong] + [(0, one) for one in wrong] + [(1, 0), (6, 5), (2 ** 60, 0)]
        for first, last in pairs:
            with self.assertRaises(InvalidNumber):
                list(cases(book, "keep", first, last))

    def test_ten_thousand_numbers(self):
        book = Book(many_facts(60), (rule("r", ("aa",), (), "x"),), "y")
        self.assertEqual(len(list(cases(book, "x", 0, 9999))), 5000)
        self.assertEqual(len(list(cases(book, "y", 7, 10006))), 5000)
        top = list(cases(book, "x", 2 ** 60 - 9999, 2 ** 60))
        self.assertEqual((len(top), top[-1]), (5000, book.facts))
        for first, last in ((0, 10000), (7, 10007), (2 ** 60 - 10000, 2 ** 60), (0, 2 ** 60)):
            with self.assertRaises(InvalidNumber):
                list(cases(book, "x", first, last))

    def test_errors_when_the_iteration_begins(self):
        book = example_book()
        for ruling, first, error in (("zoo", 0, InvalidRuling), ("pay", -1, InvalidNumber)):
            steps = cases(book, ruling, first, 5)
            with self.assertRaises(error):
                next(steps)

    def test_rank_of_wrong_cases(self):
        for wrong in (*NOT_NAMES, "other", "first", "late"):
            with self.assertRaises(InvalidCase) as caught:
                rank(example_book(), ("late", wrong))
            self.assertEqual(caught.exception.index, 1)


class SixtyFactsTest(unittest.TestCase):
    def assert_whole(self, book):
        told = counts(book)
        self.assertEqual(sum(told.values()), 2 ** 60)
        for ruling, many in told.items():
            self.assertIsNone(nth_case(book, ruling, many))
            for number in {0, 1, many // 3, many // 2, many - 2, many - 1} if many > 2 else range(many):
                case = nth_case(book, ruling, number)
                self.assertEqual(book(case), ruling)
                self.assertEqual(rank(book, case), number)
        parts = [decided_by(book, name) for name in book.names + [None]]
        self.assertEqual(sum(parts), 2 ** 60)
        self.assertEqual(idle_rules(book), [name for name, many in zip(book.names, parts) if not many])

    def test_random_books(self):
        maker = BookMaker(13)
        for depth, most, count in ((1, 3, 30), (2, 5, 40), (3, 8, 60), (6, 4, 60)):
            self.assert_whole(maker.book(many_facts(60), count, depth, most))

    def test_forty_conditions_of_two_and_three_facts(self):
        maker = BookMaker(14)
        facts = many_facts(60)
        rules = []
        for name in facts[:40]:
            names = tuple(sorted(maker.random.sample(facts, maker.random.choice((2, 3)))))
            rules.append(rule("r" + name, names[:1], names[1:], maker.random.choice("abc")))
        self.assert_whole(Book(facts, tuple(rules), "d"))

    def test_known_numbers(self):
        facts = many_facts(60)
        pairs = tuple(rule("r" + facts[at], (facts[at], facts[59 - at]), (), "x") for at in range(30))
        book = Book(facts, pairs, "y")
        self.assertEqual(counts(book), {"x": 4 ** 30 - 3 ** 30, "y": 3 ** 30})
        self.assertEqual([decided_by(book, "r" + facts[at]) for at in range(30)],
                         [3 ** at * 4 ** (29 - at) for at in range(30)])
        self.assertEqual(nth_case(book, "y", 3 ** 30 - 1), facts[30:])
        self.assertEqual(nth_case(book, "y", 2 ** 30 - 1), facts[:30])
        self.assertEqual(rank(book, facts), 4 ** 30 - 3 ** 30 - 1)

    def test_no_rules(self):
        facts = many_facts(60)
        book = Book(facts, (), "y")
        self.assertEqual(counts(book), {"y": 2 ** 60})
        self.assertEqual(nth_case(book, "y", 2 ** 60 - 1), facts)
        self.assertIsNone(nth_case(book, "y", 2 ** 60))
        self.assertEqual(rank(book, facts), 2 ** 60 - 1)
        self.assertEqual(rank(book, ("ab", "bz")), 2 + 2 ** 51)

    def test_few_named_facts(self):
        facts = many_facts(60)
        book = Book(facts, (rule("r", ("aa",), ("ch",), "x", (rule("s", ("bb",), (), "z"),)),), "y")
        self.assertEqual(counts(book), {"x": 2 ** 57, "y": 3 * 2 ** 58, "z": 2 ** 57})
        self.assertEqual(nth_case(book, "x", 0), ("aa",))
        self.assertEqual(nth_case(book, "z", 0), ("aa", "bb"))
        self.assertEqual(nth_case(book, "z", 2 ** 57 - 1), facts[:59])


if __name__ == "__main__":
    unittest.main()
