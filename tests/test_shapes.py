import unittest

from smallcourt.books import Book
from smallcourt.conditions import Condition
from smallcourt.errors import InvalidCondition, NoFacts, TooMany
from smallcourt.shapes import flat, lean, under
from tests.helpers import FACTS, all_cases, holds_for, many_facts, subsets
from tests.makers import BookMaker, example_book, nested_book, read, rule, rulings, small_books


def plain_flat(rules, holding=frozenset(), failing=frozenset()):
    """Tuples (name, holding, failing, ruling) of the rules that remain."""
    found = []
    for one in rules:
        more, less = holding | set(one.condition.holding), failing | set(one.condition.failing)
        if not more & less:
            found.extend(plain_flat(one.exceptions, more, less))
            found.append((one.name, tuple(sorted(more)), tuple(sorted(less)), one.ruling))
    return found


def plain_lean(book):
    for name in book.names[::-1]:
        if rulings(book - name) == rulings(book):
            book = book - name
    return book


def plain_under(rules, condition):
    """Nested tuples (name, holding, failing, ruling, exceptions) of the rules that remain."""
    found = []
    for one in rules:
        never = set(one.condition.holding) & set(condition.failing) or set(one.condition.failing) & set(condition.holding)
        if not never:
            holding = tuple(name for name in one.condition.holding if name not in condition.names)
            failing = tuple(name for name in one.condition.failing if name not in condition.names)
            found.append((one.name, holding, failing, one.ruling, plain_under(one.exceptions, condition)))
    return found


def told(rules):
    return [(one.name, one.condition.holding, one.condition.failing, one.ruling, told(one.exceptions)) for one in rules]


class FlatTest(unittest.TestCase):
    def assert_flat(self, book):
        made = flat(book)
        self.assertEqual([one[:4] for one in told(made.rules)], plain_flat(book.rules))
        self.assertTrue(all(one.exceptions == () for one in made.rules))
        self.assertEqual((made.facts, made.ruling), (book.facts, book.ruling))
        return made

    def test_small_books(self):
        deep = 0
        for book in small_books(61, 200) + [nested_book(seed, 5, 20) for seed in range(40)]:
            made = self.assert_flat(book)
            self.assertEqual(rulings(made), rulings(book))
            deep += any(one.depth > 2 for one in book.rules)
        self.assertGreater(deep, 50)

    def test_deciders_stay(self):
        for book in [nested_book(seed, 5, 15) for seed in range(40)]:
            made = flat(book)
            for case in all_cases(book.facts):
                self.assertEqual(read(made, case)[1][-1:], read(book, case)[1][-1:])

    def test_order_and_conditions(self):
        deep = rule("d", ("paid",), (), "w")
        rules = (rule("a", ("late",), (), "x", (rule("b", (), ("owns",), "y", (deep,)), rule("c", ("first",), (), "z"))),
                 rule("e", (), (), "v"))
        made = flat(Book(FACTS, rules, "n"))
        self.assertEqual(made.names, ["d", "b", "c", "a", "e"])
        self.assertEqual(made["d"], rule("d", ("late", "paid"), ("owns",), "w"))
        self.assertEqual(made["b"], rule("b", ("late",), ("owns",), "y"))
        self.assertEqual(made["c"], rule("c", ("first", "late"), (), "z"))
        self.assertEqual(made["a"], rule("a", ("late",), (), "x"))

    def test_conditions_that_are_never_met(self):
        inside = rule("c", ("owns",), (), "z")
        rules = (rule("a", ("late",), (), "x", (rule("b", (), ("late",), "y", (inside,)), rule("d", (), (), "w"))),)
        self.assertEqual(flat(Book(FACTS, rules, "n")).names, ["d", "a"])

    def test_never_met_by_two_rules_around(self):
        deep = rule("c", ("owns",), ("late",), "z", (rule("d", (), (), "w"),))
        rules = (rule("a", ("late",), (), "x", (rule("b", (), ("paid",), "y", (deep,)),)),)
        self.assertEqual(flat(Book(FACTS, rules, "n")).names, ["b", "a"])

    def test_forty_rules_and_more(self):
        facts = many_facts(60)
        inner = tuple(rule("i" + name, (name,), (), "y") for name in facts[:39])
        self.assertEqual(len(flat(Book(facts, (rule("a", exceptions=inner),), "n"))), 40)
        for more in ((rule("z"),), (rule("z", ("bz",), (), "x", (rule("y", (), ("bz",)),)),)):
            with self.assertRaises(TooMany):
                flat(Book(facts, (rule("a", exceptions=inner),) + more, "n"))
        never = tuple(rule("n" + name, (), (facts[0],)) for name in facts[:19])
        self.assertEqual(len(flat(Book(facts, (rule("a", facts[:1], (), "x", inner[1:] + never), rule("z")), "n"))), 40)
        with self.assertRaises(TooMany):
            flat(Book(facts, (rule("a", facts[:1], (), "x", inner + never), rule("z")), "n"))

    def test_eight_names_and_nine(self):
        facts = many_facts(60)
        eight = rule("a", facts[:4], (), "x", (rule("b", facts[3:6], facts[50:52], "y"),))
        self.assertEqual(len(flat(Book(facts, (eight,), "n"))["b"].condition), 8)
        nine = rule("a", facts[:4], (), "x", (rule("b", facts[4:6], facts[50:52], "y", (rule("c", facts[7:8]),)),))
        with self.assertRaises(TooMany):
            flat(Book(facts, (nine,), "n"))
        # The condition with nine names is never met, so that it does not remain.
        never = rule("a", facts[:4], (), "x", (rule("b", facts[4:8], facts[3:4], "y", (rule("c", facts[9:10]),)),))
        self.assertEqual(flat(Book(facts, (never,), "n")).names, ["a"])
        long = rule("a", facts[:8], (), "x", (rule("b", facts[8:15], facts[7:8], "y"),))
        self.assertEqual(flat(Book(facts, (long,), "n")).names, ["a"])

    def test_books_without_exceptions(self):
        book = Book(FACTS, (rule("a", ("late",), (), "x"), rule("b")), "n")
        self.assertEqual(flat(book), book)
        self.assertEqual(flat(Book(FACTS, (), "n")), Book(FACTS, (), "n"))


class LeanTest(unittest.TestCase):
    def test_small_books(self):
        removed = 0
        for book in small_books(62, 200) + [nested_book(seed, 4, 12) for seed in range(40)]:
            made = lean(book)
            expected = plain_lean(book)
            self.assertEqual(made, expected)
            self.assertEqual(rulings(made), rulings(book))
            self.assertEqual(lean(made), plain_lean(made))
            removed += len(book) - len(made)
        self.assertGreater(removed, 300)

    def test_books_with_nothing_to_leave_out(self):
        self.assertEqual(lean(example_book()), example_book())
        self.assertEqual(lean(Book(FACTS, (), "n")), Book(FACTS, (), "n"))

    def test_last_rules_first(self):
        # Either of the two could be left out, but not both.
        rules = (rule("a", ("late",), (), "x"), rule("b", ("late",), (), "x"))
        self.assertEqual(lean(Book(FACTS, rules, "n")).names, ["a"])
        inner = (rule("c", ("owns",), (), "y"), rule("d", ("paid",), (), "x"), rule("e", ("owns", "paid"), (), "z"))
        self.assertEqual(lean(Book(FACTS, (rule("a", ("late",), (), "x", inner),), "n")).names, ["a", "c"])

    def test_with_exceptions(self):
        inner = rule("b", ("owns",), (), "n")
        rules = (rule("a", ("late",), (), "n", (inner,)), rule("c", ("late",), (), "n"))
        self.assertEqual(lean(Book(FACTS, rules, "n")).names, [])
        needed = (rule("a", ("late",), (), "n", (rule("b", ("owns",), (), "y"),)), rule("c", (), ("paid",), "n"))
        self.assertEqual(lean(Book(FACTS, needed, "n")).names, ["a", "b"])

    def test_book_stays_as_it_was(self):
        book = Book(FACTS, (rule("a", (), (), "n"),), "n")
        self.assertEqual(lean(book).names, [])
        self.assertEqual(book.names, ["a"])

    def test_sixty_facts(self):
        facts = many_facts(60)
        pairs = tuple(rule("r" + facts[at], (facts[at], facts[59 - at]), (), "x") for at in range(30))
        self.assertEqual(lean(Book(facts, pairs, "y")), Book(facts, pairs, "y"))
        self.assertEqual(lean(Book(facts, pairs, "x")).names, [])
        more = tuple(rule("s" + facts[at], (facts[at], facts[30], facts[59 - at]), (), "x") for at in range(10))
        self.assertEqual(lean(Book(facts, pairs + more, "y")).rules, pairs)
        self.assertEqual(lean(Book(facts, more + pairs, "y")).rules, pairs)

    def test_few_named_facts_among_sixty(self):
        facts = many_facts(60)
        maker = BookMaker(63)
        for _ in range(20):
            named = tuple(sorted(maker.random.sample(facts, 6)))
            rules = maker.rules(named, ["r" + name for name in facts[:20]], 4, 4, ("a", "b"))
            self.assertEqual(lean(Book(facts, rules, "a")).rules, plain_lean(Book(named, rules, "a")).rules)


class UnderTest(unittest.TestCase):
    def assert_under(self, book, condition):
        made = under(book, condition)
        self.assertEqual(told(made.rules), plain_under(book.rules, condition))
        self.assertEqual(made.facts, tuple(fact for fact in book.facts if fact not in condition.names))
        self.assertEqual(made.ruling, book.ruling)
        for case in all_cases(book.facts):
            if holds_for(condition, case):
                ruling, way, _ = read(book, case)
                less, short, _ = read(made, tuple(fact for fact in case if fact in made.facts))
                self.assertEqual((less, short[-1:]), (ruling, way[-1:]))

    def test_all_conditions_of_small_books(self):
        for book in small_books(64, 60) + [nested_book(seed, 4, 12) for seed in range(10)]:
            for names in subsets(book.facts):
                if len(names) < len(book.facts):
                    for holding in subsets(names):
                        failing = tuple(name for name in names if name not in holding)
                        self.assert_under(book, Condition(holding, failing))

    def test_example(self):
        made = under(example_book(), Condition(("late",), ("first",)))
        self.assertEqual(told(made.rules), [("fine", (), ("paid",), "pay", []), ("keep", ("owns",), (), "keep", [])])

    def test_rules_that_can_no_longer_be_met(self):
        inside = rule("b", ("paid",), (), "y", (rule("c", (), (), "z"),))
        book = Book(FACTS, (rule("a", ("late",), (), "x", (inside, rule("d"))), rule("e")), "n")
        self.assertEqual(under(book, Condition((), ("late",))).names, ["e"])
        self.assertEqual(under(book, Condition((), ("paid",))).names, ["a", "d", "e"])

    def test_exceptions_that_were_never_met_stay(self):
        # Its own condition can still be met, though not where it stands.
        book = Book(FACTS, (rule("a", ("late",), (), "x", (rule("b", (), ("late",), "y"),)),), "n")
        self.assertEqual(under(book, Condition(("paid",), ())).names, ["a", "b"])

    def test_condition_without_names(self):
        book = example_book()
        self.assertEqual(under(book, Condition((), ())), book)

    def test_eight_names_among_sixty(self):
        facts = many_facts(60)
        book = Book(facts, (rule("a", facts[:6], facts[7:9], "x"), rule("b", facts[20:21], (), "y")), "n")
        made = under(book, Condition(facts[:5], facts[50:53]))
        self.assertEqual(made.facts, facts[5:50] + facts[53:])
        self.assertEqual(made["a"].condition, Condition(facts[5:6], facts[7:9]))

    def test_names_that_are_no_facts(self):
        bare = Book(("late",), (), "n")
        for condition in (Condition(("zoo",), ()), Condition((), ("zoo",)), Condition(("late",), ("zoo",)),
                          Condition(("late", "zoo"), ()), Condition(("ant",), ("late",))):
            with self.assertRaises(InvalidCondition) as caught:
                under(bare, condition)
            self.assertEqual((caught.exception.part, caught.exception.index), (0, 0))

    def test_no_facts(self):
        for condition in (Condition(FACTS, ()), Condition((), FACTS), Condition(FACTS[:1], FACTS[1:])):
            with self.assertRaises(NoFacts):
                under(example_book(), condition)
        self.assertEqual(under(example_book(), Condition(FACTS[:3], ())).facts, FACTS[3:])

    def test_book_stays_as_it_was(self):
        book = example_book()
        under(book, Condition((), ("late",)))
        self.assertEqual(book, example_book())


if __name__ == "__main__":
    unittest.main()
