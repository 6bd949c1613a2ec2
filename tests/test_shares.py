import unittest
from fractions import Fraction

from smallcourt.books import Book
from smallcourt.counting import counts, idle_facts, share, swing
from smallcourt.errors import InvalidChance, InvalidRuling, UnknownFact
from tests.helpers import FACTS, NOT_NAMES, all_cases, flipped, many_facts
from tests.makers import BookMaker, example_book, rule, rulings, small_books


def plain_share(book, ruling, chances):
    likely = Fraction(0)
    for case, found in zip(all_cases(book.facts), rulings(book)):
        if found == ruling:
            weight = Fraction(1)
            for fact in book.facts:
                chance = Fraction(*chances.get(fact, (1, 2)))
                weight *= chance if fact in case else 1 - chance
            likely += weight
    return likely.numerator, likely.denominator


def plain_swing(book, fact):
    found = dict(zip(all_cases(book.facts), rulings(book)))
    return sum(found[case] != found[flipped(book.facts, case, (fact,))] for case in found)


class SwingTest(unittest.TestCase):
    def assert_swings(self, book):
        swings = [plain_swing(book, fact) for fact in book.facts]
        self.assertEqual([swing(book, fact) for fact in book.facts], swings)
        self.assertEqual(idle_facts(book), [fact for fact, many in zip(book.facts, swings) if not many])

    def test_small_books(self):
        for book in small_books(21, 150):
            self.assert_swings(book)

    def test_eight_facts(self):
        maker = BookMaker(22)
        for words in (("a", "b"), ("a", "b", "c"), ("d", "e")):
            for depth, most in ((1, 4), (3, 5), (5, 3)):
                self.assert_swings(maker.book(many_facts(8), 20, depth, most, words))

    def test_idle_facts_that_conditions_name(self):
        rules = (rule("r", ("a", "b"), (), "x"), rule("s", ("a",), ("b",), "x"), rule("t", ("d",), (), "y"))
        book = Book(("a", "b", "c", "d"), rules, "y")
        self.assertEqual(idle_facts(book), ["b", "c", "d"])
        self.assertEqual([swing(book, fact) for fact in book.facts], [16, 0, 0, 0])

    def test_unknown_facts(self):
        for wrong in (*NOT_NAMES, "other", "pay", "fine"):
            with self.assertRaises(UnknownFact):
                swing(example_book(), wrong)

    def test_lists_are_new(self):
        book = Book(FACTS, (), "none")
        idle_facts(book).clear()
        self.assertEqual(idle_facts(book), list(FACTS))

    def test_sixty_facts(self):
        facts = many_facts(60)
        pairs = tuple(rule("r" + facts[at], (facts[at], facts[59 - at]), (), "x") for at in range(20))
        book = Book(facts, pairs, "y")
        for at in (0, 7, 19, 40, 59):
            self.assertEqual(swing(book, facts[at]), 2 * 3 ** 19 * 2 ** 20)
        self.assertEqual(swing(book, facts[30]), 0)
        self.assertEqual(idle_facts(book), list(facts[20:40]))

    def test_few_named_facts_among_sixty(self):
        facts = many_facts(60)
        maker = BookMaker(23)
        for _ in range(10):
            named = tuple(sorted(maker.random.sample(facts, 6)))
            rules = maker.rules(named, ["r" + name for name in facts[:12]], 3, 4, ("a", "b"))
            small = Book(named, rules, "c")
            book = Book(facts, rules, "c")
            swings = {fact: plain_swing(small, fact) for fact in named}
            for fact in facts:
                self.assertEqual(swing(book, fact), swings.get(fact, 0) * 2 ** 54)
            self.assertEqual(idle_facts(book), [fact for fact in facts if not swings.get(fact)])


class ShareTest(unittest.TestCase):
    def test_small_books(self):
        maker = BookMaker(24)
        for book in small_books(25, 150):
            chances = {}
            for fact in maker.random.sample(book.facts, maker.random.randint(0, len(book.facts))):
                below = maker.random.randint(1, 100)
                chances[fact] = (maker.random.choice((0, below, maker.random.randint(0, below))), below)
            before = dict(chances)
            for ruling in book.rulings:
                self.assertEqual(share(book, ruling, chances), plain_share(book, ruling, chances))
            self.assertEqual(list(chances.items()), list(before.items()))

    def test_chances_of_nothing_and_all(self):
        book = example_book()
        self.assertEqual(share(book, "pay", {"late": (0, 1)}), (0, 1))
        self.assertEqual(share(book, "pay", {"late": (0, 100), "paid": (1, 3)}), (0, 1))
        chances = {"late": (7, 7), "paid": (0, 3), "first": (0, 1)}
        self.assertEqual(share(book, "pay", chances), (1, 1))
        self.assertEqual(share(book, "warn", chances), (0, 1))
        self.assertEqual(share(book, "warn", {"late": (1, 1), "paid": (0, 1), "first": (99, 100)}), (99, 100))

    def test_all_shares_are_one(self):
        maker = BookMaker(26)
        facts = many_facts(60)
        book = maker.book(facts, 40, 3, 5)
        chances = {fact: (maker.random.randint(0, 100), 100) for fact in facts}
        for told in ({}, chances):
            found = [Fraction(*share(book, ruling, told)) for ruling in book.rulings]
            self.assertEqual(sum(found), 1)
        for ruling, many in counts(book).items():
            self.assertEqual(Fraction(*share(book, ruling, {})), Fraction(many, 2 ** 60))

    def test_great_numbers(self):
        facts = many_facts(60)
        nested = rule("r" + facts[0], facts[40:48], (), "x")
        for at in (32, 24, 16, 8, 0):
            nested = rule("s" + facts[at], facts[at:at + 8], (), "w", (nested,))
        book = Book(facts, (nested,), "y")
        chances = {fact: (97, 100) for fact in facts}
        likely = {"x": Fraction(97, 100) ** 48, "y": 1 - Fraction(97, 100) ** 8}
        likely["w"] = 1 - likely["x"] - likely["y"]
        for ruling, fraction in likely.items():
            self.assertEqual(share(book, ruling, chances), (fraction.numerator, fraction.denominator))

    def test_wrong_pairs(self):
        wrong = [
            (-1, 2), (3, 2), (0, 0), (1, 0), (0, 101), (50, 101), (0, -1), (True, 2), (1, True), (False, 1), (1, 2, 3),
            (1,), (), [1, 2], "12", None, 1, True, (1.0, 2), (1, 2.0), ("1", 2), (None, 1), (1, None), ((1,), 2), (1, [2]),
        ]
        for pair in wrong:
            with self.assertRaises(InvalidChance) as caught:
                share(example_book(), "pay", {"owns": (1, 2), "late": pair, "first": (5, 4)})
            self.assertEqual(caught.exception.fact, "late", pair)

    def test_right_pairs(self):
        for pair in ((0, 1), (1, 1), (0, 100), (100, 100), (99, 100), (1, 2), (50, 100)):
            self.assertEqual(Fraction(*share(example_book(), "pay", {"late": pair})), Fraction(*pair) / 4)

    def test_first_key_in_the_order_of_the_dict(self):
        for keys in (("paid", "first"), ("first", "paid"), ("owns", "late", "first")):
            with self.assertRaises(InvalidChance) as caught:
                share(example_book(), "pay", {key: (2, 1) for key in keys})
            self.assertEqual(caught.exception.fact, keys[0])

    def test_order_of_errors(self):
        book = example_book()
        with self.assertRaises(UnknownFact):
            share(book, "pay", {"late": (2, 1), "other": (1, 2)})
        for key in (None, 1, True, 1.5, ("late",), "Late", ""):
            with self.assertRaises(UnknownFact):
                share(book, "pay", {"late": None, key: (1, 2)})
        for wrong in (*NOT_NAMES, "late"):
            with self.assertRaises(InvalidRuling):
                share(book, wrong, {"other": None})

    def test_ruling_that_no_case_has(self):
        book = Book(FACTS, (rule("a", (), (), "x"), rule("b", (), (), "y")), "z")
        self.assertEqual([share(book, ruling, {"late": (1, 3)}) for ruling in "xyz"], [(1, 1), (0, 1), (0, 1)])


if __name__ == "__main__":
    unittest.main()
