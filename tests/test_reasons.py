import unittest

from smallcourt.books import Book
from smallcourt.conditions import Condition
from smallcourt.errors import InvalidCase, InvalidRuling, NoReason, TooMany
from smallcourt.reasons import core, is_reason, reason, turn, turn_to
from tests.helpers import FACTS, NOT_NAMES, all_cases, flipped, many_facts, subsets
from tests.makers import BookMaker, example_book, rule, rulings, small_books


def told(case, names):
    """The condition that the case meets and that has these names."""
    holding = tuple(name for name in names if name in case)
    return Condition(holding, tuple(name for name in names if name not in case))


class Table:
    """All cases of a book with their rulings, and what follows from them."""

    def __init__(self, book):
        self.facts = book.facts
        self.rulings = dict(zip(all_cases(book.facts), rulings(book)))

    def is_reason(self, case, names):
        alike = [other for other in self.rulings if all((name in other) == (name in case) for name in names)]
        return all(self.rulings[other] == self.rulings[case] for other in alike)

    def reason(self, case):
        return told(case, next(names for names in subsets(self.facts) if self.is_reason(case, names)))

    def core(self, case, names):
        kept = list(names)
        for name in names[::-1]:
            fewer = [other for other in kept if other != name]
            if self.is_reason(case, fewer):
                kept = fewer
        return told(case, kept)

    def turn(self, case):
        for names in subsets(self.facts):
            ruling = self.rulings[flipped(self.facts, case, names)]
            if ruling != self.rulings[case]:
                return names, ruling
        return None

    def turn_to(self, case, ruling):
        for names in subsets(self.facts):
            if self.rulings[flipped(self.facts, case, names)] == ruling:
                return names
        return None


class ReasonTest(unittest.TestCase):
    def test_small_books(self):
        for book in small_books(3, 100):
            table = Table(book)
            for case in table.rulings:
                self.assertEqual(reason(book, case), table.reason(case))
                for names in subsets(book.facts):
                    found = table.is_reason(case, names)
                    self.assertIs(is_reason(book, case, told(case, names)), found)
                    if found:
                        self.assertEqual(core(book, case, told(case, names)), table.core(case, names))
                    else:
                        with self.assertRaises(NoReason):
                            core(book, case, told(case, names))

    def test_one_ruling_for_all(self):
        book = Book(FACTS, (rule("a", ("late",), (), "x"), rule("b", (), ("paid",), "x")), "x")
        for case in all_cases(FACTS):
            self.assertEqual(reason(book, case), Condition((), ()))
            self.assertIs(is_reason(book, case, Condition((), ())), True)
            self.assertEqual(core(book, case, told(case, FACTS)), Condition((), ()))

    def test_first_of_several(self):
        book = Book(("a", "b", "c", "d"), (rule("x", ("c", "d"), (), "y"), rule("z", ("a", "b"), (), "y")), "n")
        self.assertEqual(reason(book, ("a", "b", "c", "d")), Condition(("a", "b"), ()))
        self.assertEqual(reason(book, ("a", "c")), Condition((), ("b", "d")))
        self.assertEqual(reason(book, ()), Condition((), ("a", "c")))

    def test_order_in_which_core_leaves_out(self):
        book = Book(("a", "b", "c"), (rule("x", ("a", "b"), (), "y"), rule("z", ("b", "c"), (), "y")), "n")
        self.assertEqual(core(book, ("a", "b", "c"), Condition(("a", "b", "c"), ())), Condition(("a", "b"), ()))
        book = Book(("a", "b", "c"), (rule("x", ("a",), (), "y"), rule("z", ("c",), (), "y")), "n")
        self.assertEqual(core(book, ("a", "b", "c"), Condition(("a", "b", "c"), ())), Condition(("a",), ()))
        self.assertEqual(core(book, ("a", "c"), Condition(("a", "c"), ("b",))), Condition(("a",), ()))

    def test_conditions_that_the_case_does_not_meet(self):
        book = example_book()
        self.assertIs(is_reason(book, ("owns",), Condition(("late",), ("paid",))), False)
        self.assertIs(is_reason(book, (), Condition((), ("late", "owns"))), True)
        with self.assertRaises(NoReason):
            core(book, ("owns",), Condition((), ("owns",)))

    def test_conditions_with_names_that_are_no_facts(self):
        book = Book(FACTS, (), "none")
        for condition in (Condition(("other",), ()), Condition((), ("other",)), Condition(("late",), ("zoo",))):
            self.assertIs(is_reason(book, ("late",), condition), False)
            with self.assertRaises(NoReason):
                core(book, ("late",), condition)

    def test_fourteen_and_fifteen_named_facts(self):
        facts = many_facts(20)
        first = tuple(rule(name, (name,), (), "y") for name in facts[:6])
        second = rule("x", facts[6:14], (), "y")
        book = Book(facts, first + (second,), "n")
        self.assertEqual(reason(book, facts), Condition(("aa",), ()))
        self.assertEqual(reason(book, facts[6:15]), Condition(facts[6:14], ()))
        self.assertEqual(reason(book, ("af",)), Condition(("af",), ()))
        for more in (rule("z", (facts[14],), (), "n"), rule("z", (), (), "n", (rule("q", (), (facts[14],), "n"),))):
            for case in ((), facts):
                with self.assertRaises(TooMany):
                    reason(Book(facts, book.rules + (more,), "n"), case)

    def test_fifteen_named_facts_that_do_not_matter(self):
        facts = many_facts(15)
        with self.assertRaises(TooMany):
            reason(Book(facts, tuple(rule(name, (name,), (), "n") for name in facts), "n"), ())

    def test_names_of_rules_that_are_never_met_count(self):
        facts = many_facts(15)
        inner = rule("x", facts[1:8], facts[:1], "y", (rule("z", facts[8:15], (), "y"),))
        with self.assertRaises(TooMany):
            reason(Book(facts, (rule("a", facts[:1], (), "n", (inner,)),), "n"), ())

    def test_eight_names_and_nine(self):
        facts = many_facts(10)
        for count in (8, 9):
            book = Book(facts, tuple(rule(name, (name,), (), "y") for name in facts[:count]), "n")
            if count == 8:
                self.assertEqual(reason(book, ()), Condition((), facts[:8]))
            else:
                with self.assertRaises(TooMany):
                    reason(book, ())
            self.assertEqual(reason(book, ("ac",)), Condition(("ac",), ()))

    def test_wrong_cases_ahead(self):
        facts = many_facts(15)
        book = Book(facts, tuple(rule(name, (name,), (), "y") for name in facts), "n")
        other = Condition(("zoo",), ())
        for call in (lambda: reason(book, ("ab", "aa")), lambda: is_reason(book, ("ab", "aa"), other),
                     lambda: core(book, ("ab", "aa"), other), lambda: turn(book, ("ab", "aa")),
                     lambda: turn_to(book, ("ab", "aa"), "zoo")):
            with self.assertRaises(InvalidCase) as caught:
                call()
            self.assertEqual(caught.exception.index, 1)

    def test_things_in_cases_that_are_no_names(self):
        book = example_book()
        condition = Condition((), ())
        for wrong in NOT_NAMES:
            case = ("first", "late", wrong)
            for call in (lambda: reason(book, case), lambda: is_reason(book, case, condition),
                         lambda: core(book, case, condition), lambda: turn(book, case),
                         lambda: turn_to(book, case, "pay")):
                with self.assertRaises(InvalidCase) as caught:
                    call()
                self.assertEqual(caught.exception.index, 2)

    def test_condition_stays_as_it_was(self):
        condition = Condition(("first", "late"), ("owns", "paid"))
        core(example_book(), ("first", "late"), condition)
        self.assertEqual(condition, Condition(("first", "late"), ("owns", "paid")))


class TurnTest(unittest.TestCase):
    def assert_turns(self, book):
        table = Table(book)
        for case in table.rulings:
            self.assertEqual(turn(book, case), table.turn(case))
            for ruling in book.rulings:
                self.assertEqual(turn_to(book, case, ruling), table.turn_to(case, ruling))

    def test_small_books(self):
        for book in small_books(4, 100):
            self.assert_turns(book)

    def test_eight_facts(self):
        maker = BookMaker(5)
        for words in (("a", "b"), ("a", "b", "c", "e", "f", "g")):
            self.assert_turns(maker.book(many_facts(8), 25, 3, 4, words))

    def test_one_ruling_for_all(self):
        book = Book(FACTS, (rule("a", (), (), "x", (rule("b", ("late",), (), "x"),)),), "y")
        for case in all_cases(FACTS):
            self.assertIsNone(turn(book, case))
            self.assertEqual(turn_to(book, case, "x"), ())
            self.assertIsNone(turn_to(book, case, "y"))

    def test_first_of_several(self):
        book = Book(("a", "b", "c", "d"), (rule("x", ("b", "c"), (), "y"), rule("z", ("a", "d"), (), "w")), "n")
        self.assertEqual(turn(book, ()), (("a", "d"), "w"))
        self.assertEqual(turn(book, ("a", "b", "c", "d")), (("b",), "w"))
        self.assertEqual(turn_to(book, ("a", "b", "c", "d"), "n"), ("a", "b"))

    def test_wrong_rulings(self):
        for wrong in (*NOT_NAMES, "late", "fine"):
            with self.assertRaises(InvalidRuling):
                turn_to(example_book(), (), wrong)


class SixtyFactsTest(unittest.TestCase):
    def test_all_facts_turn(self):
        facts = many_facts(60)
        book = Book(facts, tuple(rule("r" + name, (name,), (), "y") for name in facts[:40]), "n")
        self.assertEqual(turn(book, facts), (facts[:40], "n"))
        self.assertEqual(turn(book, ()), (("aa",), "y"))
        self.assertEqual(turn(book, facts[40:]), (("aa",), "y"))
        self.assertEqual(turn_to(book, facts[1:3], "n"), facts[1:3])

    def test_first_of_many(self):
        facts = many_facts(60)
        pairs = tuple(rule("r" + facts[at], (facts[at], facts[at + 20]), (), "y") for at in range(20))
        book = Book(facts, pairs, "n")
        self.assertEqual(turn(book, facts), (facts[:20], "n"))
        self.assertEqual(turn(book, facts[1:]), (facts[1:20], "n"))
        self.assertEqual(turn(book, facts[:20]), (facts[20:21], "y"))
        last = Book(facts, (rule("x", facts[58:], (), "y"), rule("z", facts[:2], (), "y")), "n")
        self.assertEqual(turn(last, facts), ((facts[0], facts[58]), "n"))

    def test_few_named_facts_among_sixty(self):
        facts = many_facts(60)
        maker = BookMaker(9)
        for _ in range(6):
            named = tuple(sorted(maker.random.sample(facts, 6)))
            rules = maker.rules(named, ["r" + name for name in facts[:12]], 3, 3, ("a", "b", "c"))
            table = Table(Book(named, rules, "d"))
            book = Book(facts, rules, "d")
            others = tuple(name for name in facts if name not in named and maker.random.random() < 0.5)
            for case in table.rulings:
                full = tuple(sorted(case + others))
                self.assertEqual(turn(book, full), table.turn(case))
                self.assertEqual(reason(book, full), table.reason(case))
                for ruling in book.rulings:
                    self.assertEqual(turn_to(book, full, ruling), table.turn_to(case, ruling))
                self.assertEqual(core(book, full, told(case, named)), table.core(case, named))

    def test_turns_of_random_books(self):
        maker = BookMaker(6)
        facts = many_facts(60)
        for depth, most in ((1, 4), (3, 5), (6, 8)):
            book = maker.book(facts, 40, depth, most, ("a", "b", "c"))
            for _ in range(5):
                case = tuple(name for name in facts if maker.random.random() < 0.5)
                names, ruling = turn(book, case)
                self.assertEqual(names, tuple(sorted(set(names))))
                self.assertEqual(book(flipped(facts, case, names)), ruling)
                self.assertNotEqual(book(case), ruling)
                for name in facts:
                    unlike = book(flipped(facts, case, (name,))) != book(case)
                    if unlike:
                        self.assertEqual(names, (name,))
                        break
                    self.assertNotEqual(names, (name,))

    def test_reasons(self):
        facts = many_facts(60)
        inner = rule("x", ("ba",), (), "n")
        book = Book(facts, (rule("r", facts[:4], facts[4:7], "y", (inner,)), rule("s", facts[1:5], (), "y")), "n")
        case = facts[:4]
        self.assertIs(is_reason(book, case, Condition(facts[:4], facts[4:7] + ("ba",))), True)
        self.assertIs(is_reason(book, case, Condition(facts[:4], facts[4:7])), False)
        self.assertIs(is_reason(book, (), Condition((), ("ab",))), True)
        self.assertIs(is_reason(book, (), Condition((), ("aa", "ab", "ac"))), True)
        self.assertEqual(core(book, (), Condition((), ("aa", "ab", "ac", "ad"))), Condition((), ("ab",)))
        self.assertEqual(reason(book, case), Condition(facts[:4], facts[5:7] + ("ba",)))
        many = Book(facts, tuple(rule("r" + name, (name,), (), "y") for name in facts[:40]), "n")
        self.assertIs(is_reason(many, facts, Condition(("bb",), ())), True)
        self.assertIs(is_reason(many, (), Condition((), facts[:8])), False)
        self.assertEqual(core(many, facts, Condition(("aa", "ab", "ac"), ())), Condition(("aa",), ()))


if __name__ == "__main__":
    unittest.main()
