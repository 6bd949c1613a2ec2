import unittest
from itertools import permutations

from smallcourt.books import Book, Rule
from smallcourt.conditions import Condition
from smallcourt.errors import Contradiction, CourtError, InvalidCase, InvalidRuling, TooMany, UnknownRule
from smallcourt.watchers import ConditionWatcher, OrderWatcher
from tests.helpers import FACTS, NOT_NAMES, all_cases, many_facts, subsets
from tests.makers import BookMaker, example_book, read, rebuilt, rule, small_books, statute_book


def plain_conditions(facts):
    """All (holding, failing) of at most two names, in the order of the document."""
    found = []
    for holding in subsets(facts):
        for failing in subsets(facts):
            if len(holding) + len(failing) <= 2 and not set(holding) & set(failing):
                found.append((len(holding) + len(failing), holding, failing))
    return [(holding, failing) for _, holding, failing in sorted(found)]


def decided(book, case):
    ruling, way, _ = read(book, case)
    return ruling, way[-1] if way else None


class PlainConditions:
    """Tries all conditions: each is a pair (holding, failing) with a dict from cases to (ruling, decider)."""

    def __init__(self, book, name):
        self.facts = book.facts
        self.left = []
        for holding, failing in plain_conditions(book.facts):
            def changed(one):
                return [Rule(name, Condition(holding, failing), one.ruling, one.exceptions)]
            other = Book(book.facts, rebuilt(book.rules, name, changed), book.ruling)
            self.left.append(((holding, failing), {case: decided(other, case) for case in all_cases(book.facts)}))

    def candidates(self):
        return [pair for pair, _ in self.left]

    def after(self, case, place, worth):
        """What is left if the ruling (place 0) or the decider (place 1) of a case is this one."""
        return [(pair, told) for pair, told in self.left if told[case][place] == worth]

    def possible(self, case):
        return sorted({told[case][0] for _, told in self.left})

    def telling(self):
        worst = []
        for case in all_cases(self.facts):
            worst.append(max(len(self.after(case, 0, ruling)) for ruling in self.possible(case)))
        return all_cases(self.facts)[worst.index(min(worst))]


def pairs(watcher):
    return [(one.holding, one.failing) for one in watcher.candidates]


class ConditionWatcherTest(unittest.TestCase):
    def assert_like(self, watcher, plain, book):
        self.assertEqual(pairs(watcher), plain.candidates())
        self.assertEqual(watcher.telling(), plain.telling())
        for case in all_cases(book.facts):
            self.assertEqual(watcher.possible(case), plain.possible(case))

    def observe(self, maker, watcher, plain, records, book):
        """Makes an observation that may be a contradiction; tells whether it was."""
        case = maker.random.choice(all_cases(book.facts))
        if maker.random.random() < 0.6:
            worth = maker.random.choice(plain.possible(case) * 4 + ["a", "zoo"])
            place, call = 0, watcher.see
        else:
            worth = maker.random.choice([told[case][1] for _, told in plain.left] + book.names + [None])
            place, call = 1, watcher.see_decider
        left = plain.after(case, place, worth)
        if not left:
            with self.assertRaises(Contradiction):
                call(case, worth)
            return True
        self.assertEqual(call(case, worth), len(left))
        plain.left = left
        records.append((("ruling", "decider")[place], case, worth))
        return False

    def test_small_books(self):
        maker = BookMaker(321)
        contradictions = telling = 0
        for book in small_books(322, 120):
            if not book.names:
                continue
            name = maker.random.choice(book.names)
            watcher, plain, records = ConditionWatcher(book, name), PlainConditions(book, name), []
            for _ in range(6):
                self.assert_like(watcher, plain, book)
                telling += plain.telling() != ()
                contradictions += self.observe(maker, watcher, plain, records, book)
                self.assertEqual(watcher.records, records)
            self.assert_like(watcher, plain, book)
        self.assertGreater(contradictions, 50)
        self.assertGreater(telling, 50)

    def test_exceptions_and_rules_with_exceptions(self):
        book = example_book()
        for name in book.names:
            watcher, plain = ConditionWatcher(book, name), PlainConditions(book, name)
            self.assert_like(watcher, plain, book)
            for case in all_cases(FACTS)[::3]:
                ruling = book(case)
                plain.left = plain.after(case, 0, ruling)
                self.assertEqual(watcher.see(case, ruling), len(plain.left))
                self.assert_like(watcher, plain, book)

    def test_the_order_of_candidates(self):
        watcher = ConditionWatcher(Book(("a", "b"), (rule("r", ("a",), (), "x"),), "n"), "r")
        self.assertEqual(pairs(watcher), [
            ((), ()), ((), ("a",)), ((), ("b",)), (("a",), ()), (("b",), ()),
            ((), ("a", "b")), (("a",), ("b",)), (("a", "b"), ()), (("b",), ("a",)),
        ])

    def test_whatever_the_book_says(self):
        conditions = [Condition(FACTS[:3], ()), Condition(FACTS[1:], FACTS[:1]), Condition((), FACTS), Condition((), ())]
        found = []
        for condition in conditions:
            book = Book(FACTS, (rule("keep", ("owns",), (), "keep"), Rule("fine", condition, "pay", ())), "none")
            watcher = ConditionWatcher(book, "fine")
            found.append((pairs(watcher), watcher.telling(), watcher.see(("late",), "pay"), pairs(watcher)))
            self.assertEqual(found[-1], found[0])
        self.assertEqual(found[0][2], 11)

    def test_the_first_of_several_telling_cases(self):
        book = Book(("a", "b", "c"), (rule("r", (), (), "x"),), "n")
        watcher = ConditionWatcher(book, "r")
        # One name that must hold or fail divides the candidates alike, whichever it is.
        self.assertEqual(watcher.telling(), ())
        watcher.see((), "n")
        self.assertEqual(watcher.telling(), PlainTelling.of(book, [((), "n")]))

    def test_the_first_case_if_all_leave_as_many(self):
        book = Book(("a", "b"), (rule("r", ("a",), (), "n"),), "n")
        self.assertEqual(ConditionWatcher(book, "r").telling(), ())
        hidden = Book(("a", "b"), (rule("q", (), (), "x"), rule("r", ("a",), (), "y")), "n")
        self.assertEqual(ConditionWatcher(hidden, "r").telling(), ())
        watcher = ConditionWatcher(Book(("a", "b"), (rule("r", ("a",), (), "x"),), "n"), "r")
        self.assertEqual([watcher.see(("a",), "x"), watcher.see((), "n"), watcher.see(("a", "b"), "n")], [4, 2, 1])
        self.assertEqual((pairs(watcher), watcher.telling()), ([(("a",), ("b",))], ()))

    def test_contradictions_change_nothing(self):
        watcher = ConditionWatcher(statute_book(), "mild")
        watcher.see(("first", "late"), "warn")
        before = (pairs(watcher), watcher.records, watcher.telling())
        for call in (lambda: watcher.see(("first", "late"), "fine"), lambda: watcher.see((), "zoo"),
                     lambda: watcher.see_decider((), "late"), lambda: watcher.see_decider(("first", "late"), None)):
            with self.assertRaises(Contradiction):
                call()
            self.assertEqual((pairs(watcher), watcher.records, watcher.telling()), before)

    def test_no_rule_decides(self):
        watcher = ConditionWatcher(Book(("a",), (rule("r", (), (), "n"),), "n"), "r")
        self.assertEqual(watcher.see(("a",), "n"), 3)
        self.assertEqual(watcher.see_decider(("a",), None), 1)
        self.assertEqual(pairs(watcher), [((), ("a",))])
        self.assertEqual(watcher.see_decider((), "r"), 1)
        self.assertEqual(watcher.records, [("ruling", ("a",), "n"), ("decider", ("a",), None), ("decider", (), "r")])

    def test_lists_are_new_for_each_reading(self):
        watcher = ConditionWatcher(statute_book(), "mild")
        watcher.see((), "free")
        before = (pairs(watcher), watcher.records)
        for told in (watcher.candidates, watcher.records, watcher.possible(())):
            told.clear()
            told.append("zoo")
        self.assertEqual((pairs(watcher), watcher.records, watcher.possible(())), (*before, ["free"]))

    def test_the_book_stays_as_it_was(self):
        book = statute_book()
        watcher = ConditionWatcher(book, "late")
        watcher.see(("late",), "free")
        self.assertEqual(book, statute_book())


class PlainTelling:
    """The most telling case behind some observations."""

    @staticmethod
    def of(book, seen):
        plain = PlainConditions(book, "r")
        for case, ruling in seen:
            plain.left = plain.after(case, 0, ruling)
        return plain.telling()


class ConditionErrorsTest(unittest.TestCase):
    def test_ten_facts_and_eleven(self):
        facts = many_facts(11)
        rules = (rule("r", facts[:2], (), "x", (rule("s", facts[8:10], (), "y"),)),)
        watcher = ConditionWatcher(Book(facts[:10], rules, "n"), "r")
        self.assertEqual(len(watcher.candidates), 201)
        self.assertEqual(pairs(watcher), plain_conditions(facts[:10]))
        self.assertEqual(watcher.see(facts[8:10], "y"), 1 + 10 + 45)
        self.assertEqual(watcher.possible(facts[8:10]), ["y"])
        with self.assertRaises(TooMany):
            ConditionWatcher(Book(facts, rules, "n"), "r")
        for wrong in (*NOT_NAMES, "zoo", "x", "n", facts[0]):
            for book in (Book(facts, rules, "n"), Book(facts[:10], rules, "n")):
                with self.assertRaises(UnknownRule):
                    ConditionWatcher(book, wrong)

    def test_invalid_case_first(self):
        watcher = ConditionWatcher(statute_book(), "mild")
        for case, index in ((("zoo",), 0), (("late", "first"), 1), (("first", "first"), 1)):
            for call in (lambda: watcher.see(case, None), lambda: watcher.see_decider(case, "zoo"), lambda: watcher.possible(case)):
                with self.assertRaises(InvalidCase) as caught:
                    call()
                self.assertEqual(caught.exception.index, index)
        for wrong in NOT_NAMES:
            for call in (lambda: watcher.see((wrong,), wrong), lambda: watcher.see_decider((wrong,), wrong),
                         lambda: watcher.possible((wrong,))):
                with self.assertRaises(InvalidCase):
                    call()
        self.assertEqual((len(watcher.candidates), watcher.records), (19, []))

    def test_rulings_and_rules(self):
        watcher = ConditionWatcher(statute_book(), "mild")
        for wrong in NOT_NAMES:
            with self.assertRaises(InvalidRuling):
                watcher.see((), wrong)
        for wrong in (*NOT_NAMES, "zoo", "first", "free"):
            if wrong is not None:
                with self.assertRaises(UnknownRule):
                    watcher.see_decider((), wrong)
        self.assertEqual((len(watcher.candidates), watcher.records), (19, []))
        self.assertEqual(watcher.see_decider((), None), 19)


def plain_order_ruling(book, order, case):
    return read(Book(book.facts, tuple(order), book.ruling), case)[0]


class OrderMaker(BookMaker):
    def ordered(self):
        """A book with up to six outermost rules, many of which are met together."""
        facts = tuple("abcd")[:self.random.randint(1, 4)]
        rules = []
        for number in range(self.random.randint(0, 6)):
            inner = self.rules(facts, [f"q{chr(97 + number)}"] * self.random.randint(0, 1), 1, 1, ("x", "y"))
            name = "zyxwvu"[number]
            rules.append(Rule(name, self.condition(facts, 2), self.random.choice(("x", "y", "z")), inner))
        return Book(facts, tuple(rules), self.random.choice("xn"))


class OrderWatcherTest(unittest.TestCase):
    def assert_like(self, watcher, book, left, records):
        names = [tuple(one.name for one in order) for order in left]
        self.assertEqual((watcher.order_count, watcher.first_order, watcher.records), (len(names), names[0], records))
        for name in names[0]:
            for other in names[0]:
                sure = all(order.index(name) < order.index(other) for order in names)
                self.assertIs(watcher.sure(name, other), sure)
                self.assertFalse(name == other and sure)

    def test_small_books(self):
        maker = OrderMaker(331)
        contradictions = sure = 0
        for _ in range(60):
            book = maker.ordered()
            watcher, left, records = OrderWatcher(book), list(permutations(book.rules)), []
            self.assert_like(watcher, book, left, records)
            for _ in range(5):
                case = maker.random.choice(all_cases(book.facts))
                ruling = maker.random.choice([plain_order_ruling(book, maker.random.choice(left), case)] * 5 + ["zoo", "x"])
                after = [order for order in left if plain_order_ruling(book, order, case) == ruling]
                if after:
                    self.assertEqual(watcher.see(case, ruling), len(after))
                    left = after
                    records.append((case, ruling))
                else:
                    with self.assertRaises(Contradiction):
                        watcher.see(case, ruling)
                    contradictions += 1
                self.assert_like(watcher, book, left, records)
            sure += len(left) < 720 and len(book.rules) == 6
        self.assertGreater(contradictions, 20)
        self.assertGreater(sure, 3)

    def test_no_outermost_rule_and_one(self):
        watcher = OrderWatcher(Book(("a",), (), "n"))
        self.assertEqual((watcher.order_count, watcher.first_order, watcher.records), (1, (), []))
        self.assertEqual((watcher.see(("a",), "n"), watcher.records), (1, [(("a",), "n")]))
        with self.assertRaises(Contradiction):
            watcher.see((), "x")
        with self.assertRaises(UnknownRule):
            watcher.sure("a", "a")
        watcher = OrderWatcher(Book(("a",), (rule("r", ("a",), (), "x", (rule("s"),)),), "n"))
        self.assertEqual((watcher.order_count, watcher.first_order), (1, ("r",)))
        self.assertIs(watcher.sure("r", "r"), False)
        self.assertEqual(watcher.see((), "n"), 1)

    def test_six_and_seven(self):
        facts = many_facts(60)
        rules = tuple(rule("r" + name, (name,), (), "x" + name) for name in facts[:7])
        watcher = OrderWatcher(Book(facts, rules[:6], "n"))
        self.assertEqual((watcher.order_count, watcher.first_order), (720, tuple(one.name for one in rules[:6])))
        self.assertEqual(watcher.see(facts, "x" + facts[3]), 120)
        self.assertEqual(watcher.first_order[:3], ("raa".replace("aa", facts[3]), "r" + facts[0], "r" + facts[1]))
        self.assertIs(watcher.sure("r" + facts[3], "r" + facts[0]), True)
        self.assertIs(watcher.sure("r" + facts[0], "r" + facts[3]), False)
        self.assertIs(watcher.sure("r" + facts[0], "r" + facts[1]), False)
        with self.assertRaises(TooMany):
            OrderWatcher(Book(facts, rules, "n"))
        deep = rule("deep", exceptions=rules)
        self.assertEqual(OrderWatcher(Book(facts, (deep,), "n")).order_count, 1)

    def test_contradictions_change_nothing(self):
        book = example_book()
        watcher = OrderWatcher(book)
        self.assertEqual(watcher.see(("late", "owns"), "keep"), 1)
        for case, ruling in ((("late", "owns"), "pay"), ((), "keep"), (("first", "late"), "pay"), ((), "zoo")):
            with self.assertRaises(Contradiction):
                watcher.see(case, ruling)
            self.assertEqual((watcher.order_count, watcher.first_order), (1, ("keep", "fine")))
            self.assertEqual(watcher.records, [(("late", "owns"), "keep")])
        self.assertEqual(book, example_book())

    def test_rules_that_are_not_outermost(self):
        watcher = OrderWatcher(example_book())
        for wrong in (*NOT_NAMES, "mild", "zoo", "none", "pay", FACTS[0]):
            for name, other in ((wrong, "keep"), ("keep", wrong), (wrong, wrong)):
                with self.assertRaises(UnknownRule):
                    watcher.sure(name, other)

    def test_wrong_observations(self):
        watcher = OrderWatcher(example_book())
        for wrong in NOT_NAMES:
            with self.assertRaises(InvalidCase) as caught:
                watcher.see(("late", wrong), wrong)
            self.assertEqual(caught.exception.index, 1)
            with self.assertRaises(InvalidRuling):
                watcher.see(("late",), wrong)
        with self.assertRaises(InvalidCase):
            watcher.see(("owns", "late"), "keep")
        self.assertEqual((watcher.order_count, watcher.records), (2, []))

    def test_lists_are_new_for_each_reading(self):
        watcher = OrderWatcher(example_book())
        watcher.see((), "none")
        watcher.records.clear()
        self.assertEqual(watcher.records, [((), "none")])

    def test_all_are_errors_of_the_package(self):
        for call in (lambda: ConditionWatcher(example_book(), "zoo"), lambda: OrderWatcher(example_book()).see((), "x")):
            with self.assertRaises(CourtError):
                call()


if __name__ == "__main__":
    unittest.main()
