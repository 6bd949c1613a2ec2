import unittest

from smallcourt.books import Book
from smallcourt.comparison import clashes, first_unlike, swapped, unlike_count
from smallcourt.errors import NoNeighbor, OtherFacts, UnknownRule
from tests.helpers import FACTS, NOT_NAMES, all_cases, holds_for, many_facts
from tests.makers import BookMaker, beside_and_around, changed_book, example_book, read, rule, rulings, small_books


def plain_unlike(book, other):
    """All cases that two books rule otherwise, in order."""
    pairs = zip(all_cases(book.facts), rulings(book), rulings(other))
    return [case for case, ruling, told in pairs if ruling != told]


def plain_clashes(book):
    """All clashes by a walk through all cases."""
    found = []
    places = beside_and_around(book)
    numbers = {name: number for number, name in enumerate(book.names)}
    for name in book.names:
        for other in book.names:
            beside, around = places[name]
            later = other in beside and numbers[other] > numbers[name]
            if later and book[name].ruling != book[other].ruling:
                conditions = [book[one].condition for one in around + [name, other]]
                met = [case for case in all_cases(book.facts) if all(holds_for(one, case) for one in conditions)]
                found.extend((name, other, case) for case in met[:1])
    return found


class UnlikeTest(unittest.TestCase):
    def assert_unlike(self, book, other):
        found = plain_unlike(book, other)
        for first, second in ((book, other), (other, book)):
            self.assertEqual(first_unlike(first, second), found[0] if found else None)
            self.assertEqual(unlike_count(first, second), len(found))
        return len(found)

    def test_books_that_differ_in_one_thing(self):
        maker = BookMaker(41)
        counts = []
        for book in small_books(42, 150):
            for kind in ("rule", "condition", "ruling", "book", "swap"):
                counts.append(self.assert_unlike(book, changed_book(maker, book, kind)))
        self.assertIn(0, counts)
        self.assertGreater(len(set(counts)), 8)

    def test_books_of_the_same_facts(self):
        maker = BookMaker(43)
        for _ in range(150):
            facts = tuple(sorted(maker.random.sample(["ash", "bee", "cat", "dog", "elk", "fox"], 5)))
            self.assert_unlike(maker.book(facts, 8), maker.book(facts, 6))

    def test_eight_facts(self):
        maker = BookMaker(44)
        facts = many_facts(8)
        for depth, most in ((1, 3), (3, 5), (5, 4)):
            self.assert_unlike(maker.book(facts, 20, depth, most), maker.book(facts, 25, depth, most))

    def test_the_same_book(self):
        for book in small_books(45, 30):
            self.assertIsNone(first_unlike(book, book))
            self.assertEqual(unlike_count(book, book), 0)
            copy = Book(book.facts, book.rules, book.ruling)
            self.assertIsNone(first_unlike(book, copy))

    def test_ruling_of_the_book_alone(self):
        book = example_book()
        other = Book(book.facts, book.rules, "other")
        self.assertEqual((first_unlike(book, other), unlike_count(book, other)), ((), 6))
        bare = Book(FACTS, (), "none")
        self.assertEqual((first_unlike(bare, Book(FACTS, (), "other")), unlike_count(bare, bare)), ((), 0))
        self.assertEqual(unlike_count(bare, Book(FACTS, (), "other")), 16)
        full = Book(FACTS, (rule("all"),), "none")
        self.assertEqual(unlike_count(full, Book(FACTS, (rule("all"),), "other")), 0)

    def test_unlike_books_that_rule_alike(self):
        book = Book(FACTS, (rule("a", ("late",), (), "x"), rule("b", (), ("late",), "y")), "n")
        other = Book(FACTS, (rule("c", (), (), "x", (rule("d", (), ("late",), "y"),)),), "m")
        self.assertIsNone(first_unlike(book, other))
        self.assertEqual(unlike_count(book, other), 0)

    def test_other_facts(self):
        book = example_book()
        for facts in (FACTS + ("zoo",), FACTS[:3], FACTS[1:], ("ant",) + FACTS, ("zoo",)):
            other = Book(facts, (), "none")
            for first, second in ((book, other), (other, book)):
                for call in (first_unlike, unlike_count):
                    with self.assertRaises(OtherFacts):
                        call(first, second)

    def test_sixty_facts(self):
        facts = many_facts(60)
        pairs = tuple(rule("r" + facts[at], (facts[at], facts[59 - at]), (), "x") for at in range(30))
        book = Book(facts, pairs, "y")
        for at in (0, 7, 29):
            less = book - ("r" + facts[at])
            self.assertEqual(unlike_count(book, less), 3 ** 29)
            self.assertEqual(first_unlike(book, less), (facts[at], facts[59 - at]))
        self.assertEqual(unlike_count(book, Book(facts, pairs, "z")), 3 ** 30)
        self.assertEqual(unlike_count(book, Book(facts, pairs[::-1], "y")), 0)
        self.assertEqual(unlike_count(book, Book(facts, (), "y")), 4 ** 30 - 3 ** 30)
        self.assertEqual(first_unlike(book, Book(facts, (), "y")), (facts[29], facts[30]))
        self.assertEqual(first_unlike(Book(facts, (), "x"), Book(facts, (), "y")), ())

    def test_last_case_of_sixty_facts(self):
        facts = many_facts(60)
        rules = tuple(rule("r" + name, (), (name,), "x") for name in facts[:40])
        book = Book(facts, rules, "y")
        self.assertEqual(first_unlike(book, Book(facts, rules, "z")), facts[:40])
        self.assertEqual(unlike_count(book, Book(facts, rules, "z")), 2 ** 20)
        more = rule("last", facts[40:48], (), "w", (rule("in", facts[48:52], facts[52:56], "q"),))
        other = Book(facts, rules[:39] + (rule("all", (), facts[39:40], "x", (more,)),), "y")
        self.assertEqual(first_unlike(book, other), facts[:39] + facts[40:48])
        self.assertEqual(unlike_count(book, other), 2 ** 12)

    def test_few_named_facts_among_sixty(self):
        facts = many_facts(60)
        maker = BookMaker(46)
        for _ in range(20):
            named = tuple(sorted(maker.random.sample(facts, 6)))
            parts = [maker.rules(named, ["r" + name for name in facts[:12]], 3, 4, ("a", "b")) for _ in range(2)]
            small = plain_unlike(Book(named, parts[0], "c"), Book(named, parts[1], "c"))
            book, other = Book(facts, parts[0], "c"), Book(facts, parts[1], "c")
            self.assertEqual(first_unlike(book, other), small[0] if small else None)
            self.assertEqual(unlike_count(book, other), len(small) * 2 ** 54)

    def test_random_books_of_sixty_facts(self):
        maker = BookMaker(47)
        facts = many_facts(60)
        for _ in range(5):
            book = maker.book(facts, 30, 3, 4)
            for kind in ("condition", "ruling", "book", "swap"):
                other = changed_book(maker, book, kind)
                case = first_unlike(book, other)
                many = unlike_count(book, other)
                self.assertEqual(case is None, many == 0)
                if case is not None:
                    self.assertNotEqual(read(book, case)[0], read(other, case)[0])
                    for place in range(len(case)):
                        less = case[:place] + case[place + 1:]
                        self.assertEqual(read(book, less)[0], read(other, less)[0])


class ClashesTest(unittest.TestCase):
    def test_small_books(self):
        found = []
        for book in small_books(48, 200):
            self.assertEqual(clashes(book), plain_clashes(book))
            found.extend(clashes(book))
        self.assertGreater(len(found), 100)

    def test_more_rules(self):
        maker = BookMaker(49)
        for depth in (1, 2, 6):
            book = maker.book(many_facts(6), 30, depth, 4)
            self.assertEqual(clashes(book), plain_clashes(book))

    def test_rules_that_are_not_neighbors(self):
        rules = (rule("a", ("late",), (), "x"), rule("b", ("paid",), (), "x"), rule("c", ("owns",), (), "y"))
        found = [("a", "c", ("late", "owns")), ("b", "c", ("owns", "paid"))]
        self.assertEqual(clashes(Book(FACTS, rules, "n")), found)

    def test_rules_in_different_places_do_not_clash(self):
        inner = rule("b", ("paid",), (), "y")
        rules = (rule("a", ("late",), (), "x", (inner,)), rule("c", ("owns",), (), "x", (rule("d", (), (), "z"),)))
        self.assertEqual(clashes(Book(FACTS, rules, "n")), [])

    def test_same_rulings(self):
        rules = (rule("a", ("late",), (), "x"), rule("b", (), (), "x"))
        self.assertEqual(clashes(Book(FACTS, rules, "n")), [])

    def test_conditions_that_are_never_met_together(self):
        opposed = (rule("a", ("late",), ("paid",), "x"), rule("b", ("paid",), (), "y"))
        self.assertEqual(clashes(Book(FACTS, opposed, "n")), [])
        inner = (rule("a", ("late",), (), "x"), rule("b", ("owns",), (), "y"))
        around = rule("r", (), ("owns",), "z", (rule("s", ("first",), (), "z", inner),))
        self.assertEqual(clashes(Book(FACTS, (around,), "n")), [])
        self.assertEqual(clashes(Book(FACTS, inner, "n")), [("a", "b", ("late", "owns"))])

    def test_conditions_of_rules_around(self):
        inner = (rule("a", ("late",), (), "x"), rule("b", ("owns",), ("paid",), "y"))
        around = rule("r", ("first",), (), "z", inner)
        # That an earlier rule decides the case does not matter.
        earlier = rule("e", (), (), "q")
        found = [("e", "r", ("first",)), ("a", "b", ("first", "late", "owns"))]
        self.assertEqual(clashes(Book(FACTS, (earlier, around), "n")), found)

    def test_order(self):
        inner = (rule("d", (), (), "x"), rule("c", (), (), "y"), rule("b", (), (), "z"))
        rules = (rule("z", (), (), "x", inner), rule("y", (), (), "y"), rule("a", (), (), "z"))
        pairs = [("z", "y"), ("z", "a"), ("d", "c"), ("d", "b"), ("c", "b"), ("y", "a")]
        self.assertEqual(clashes(Book(FACTS, rules, "n")), [pair + ((),) for pair in pairs])

    def test_long_conditions(self):
        facts = many_facts(60)
        inner = (rule("b", facts[8:16], facts[24:24], "x"), rule("c", facts[16:24], (), "y"))
        book = Book(facts, (rule("a", facts[:4], facts[50:54], "z", inner),), "n")
        self.assertEqual(clashes(book), [("b", "c", facts[:4] + facts[8:24])])

    def test_results_belong_to_the_caller(self):
        book = example_book()
        clashes(book).clear()
        self.assertEqual(len(clashes(book)), 1)


class SwappedTest(unittest.TestCase):
    def test_all_rules_of_small_books(self):
        for book in small_books(50, 60):
            kept = Book(book.facts, book.rules, book.ruling)
            places = beside_and_around(book)
            for name in book.names:
                beside, _ = places[name]
                place = beside.index(name)
                if place + 1 == len(beside):
                    with self.assertRaises(NoNeighbor):
                        swapped(book, name)
                else:
                    other = swapped(book, name)
                    order = list(beside)
                    order[place], order[place + 1] = order[place + 1], name
                    self.assertEqual(beside_and_around(other)[name][0], order)
                    self.assertEqual({one: other[one].ruling for one in other.names},
                                     {one: book[one].ruling for one in book.names})
                    for one in book.names:
                        if name not in beside_and_around(book)[one][1] and name not in names_inside(book[one]):
                            self.assertEqual(other[one], book[one])
                    self.assertEqual((other.facts, other.ruling, len(other)), (book.facts, book.ruling, len(book)))
                    self.assertEqual(swapped(other, beside[place + 1]), book)
            self.assertEqual(book, kept)

    def test_outermost_rules_and_exceptions(self):
        neighbor = rule("b", exceptions=(rule("x"), rule("y"), rule("z")))
        book = Book(FACTS, (rule("a", exceptions=(rule("w"),)), neighbor, rule("c")), "n")
        self.assertEqual(swapped(book, "a").names, ["b", "x", "y", "z", "a", "w", "c"])
        self.assertEqual(swapped(book, "b").names, ["a", "w", "c", "b", "x", "y", "z"])
        self.assertEqual(swapped(book, "x").names, ["a", "w", "b", "y", "x", "z", "c"])
        self.assertEqual(swapped(book, "y").names, ["a", "w", "b", "x", "z", "y", "c"])
        self.assertEqual(swapped(book, "b")["b"], neighbor)

    def test_no_neighbor(self):
        book = Book(FACTS, (rule("a", exceptions=(rule("w"),)), rule("c", exceptions=(rule("x"), rule("y")))), "n")
        for name in ("w", "c", "y"):
            with self.assertRaises(NoNeighbor):
                swapped(book, name)
        with self.assertRaises(NoNeighbor):
            swapped(Book(FACTS, (rule("a"),), "n"), "a")

    def test_unknown_rules(self):
        for wrong in (*NOT_NAMES, "late", "none", "pay"):
            with self.assertRaises(UnknownRule):
                swapped(example_book(), wrong)


def names_inside(one):
    found = []
    for inner in one.exceptions:
        found.extend([inner.name] + names_inside(inner))
    return found


if __name__ == "__main__":
    unittest.main()
