import unittest

from smallcourt.books import Book
from smallcourt.errors import CourtError, InvalidCase, TooMany, UnknownFact
from smallcourt.tables import explained, table
from tests.helpers import FACTS, NOT_NAMES, all_cases, many_facts
from tests.makers import BookMaker, example_book, nested_book, read, rule, small_books, statute_book


def plain_explained(book, case):
    ruling, way, _ = read(book, case)
    text = ""
    for around, name in enumerate(way):
        condition = book[name].condition
        words = [*condition.holding, *[f"no {fact}" for fact in condition.failing]]
        text += f"{'  ' * around}{name}: {', '.join(words) or 'always'}\n"
    return f"{text}so {ruling}"


class ExplainedTest(unittest.TestCase):
    def test_drawn_books(self):
        longest = []
        for book in small_books(411, 100) + [nested_book(seed, 4, 10) for seed in range(60)]:
            for case in all_cases(book.facts):
                self.assertEqual(explained(book, case), plain_explained(book, case))
                longest.append(len(read(book, case)[1]))
        self.assertLessEqual({0, 1, 2, 3, 4, 5}, set(longest))

    def test_rows(self):
        deep = rule("e", (), ("first", "late"), "y", (rule("f"), rule("g", ("owns",))))
        book = Book(FACTS, (rule("b", ("owns", "paid"), (), "x", (rule("d", ("owns",), ("late",), "z", (deep,)),)),), "n")
        self.assertEqual(explained(book, ("owns", "paid")), "\n".join([
            "b: owns, paid", "  d: owns, no late", "    e: no first, no late", "      f: always", "so free",
        ]))
        self.assertEqual(explained(book, FACTS), "b: owns, paid\nso x")
        self.assertEqual(explained(book, ("owns",)), "so n")
        self.assertEqual(explained(example_book(), ("late", "owns")), "fine: late, no paid\nso pay")

    def test_wrong_cases(self):
        for case, index in ((("zoo",), 0), (("late", "first"), 1), (("late", "late"), 1)):
            with self.assertRaises(InvalidCase) as caught:
                explained(statute_book(), case)
            self.assertEqual(caught.exception.index, index)
        for wrong in NOT_NAMES:
            with self.assertRaises(InvalidCase) as caught:
                explained(statute_book(), ("late", wrong))
            self.assertEqual(caught.exception.index, 1)


class TableTest(unittest.TestCase):
    def test_drawn_books(self):
        maker = BookMaker(413)
        counts = []
        for number in range(150):
            facts = many_facts(8)[:maker.random.randint(1, 8)]
            book = maker.book(facts, maker.random.randint(0, 8))
            chosen = tuple(sorted(maker.random.sample(facts, maker.random.randint(1, min(5, len(facts))))))
            rows = []
            for case in all_cases(chosen):
                signs = "".join("+" if fact in case else "-" for fact in chosen)
                rows.append(f"{signs} {read(book, case)[0]}")
            self.assertEqual(table(book, chosen), "\n".join(rows))
            counts.append(len(chosen))
        self.assertEqual(set(counts), {1, 2, 3, 4, 5})

    def test_rows(self):
        book = statute_book()
        self.assertEqual(table(book, ("late",)), "- free\n+ fine")
        self.assertEqual(table(book, ("late", "paid")), "-- free\n+- fine\n-+ free\n++ free")
        self.assertEqual(table(book, book.facts).split("\n")[3], "++- warn")

    def test_no_facts(self):
        with self.assertRaises(InvalidCase) as caught:
            table(statute_book(), ())
        self.assertEqual(caught.exception.index, 0)

    def test_five_facts_and_six(self):
        facts = many_facts(8)
        book = Book(facts, (), "n")
        self.assertEqual(len(table(book, facts[:5]).split("\n")), 32)
        for sixth in (facts[5], facts[0], "zoo", None, [], ("late",)):
            with self.assertRaises(TooMany):
                table(book, facts[:5] + (sixth,))
            with self.assertRaises(TooMany):
                table(book, facts[:5] + (sixth, None))

    def test_fact_by_fact(self):
        book = statute_book()
        for wrong in (*NOT_NAMES, "zoo", "fine", "mild"):
            for before in ((), ("first",), ("first", "late")):
                with self.assertRaises(UnknownFact):
                    table(book, before + (wrong, "late", "first", None, None, None))
        for facts, index in ((("late", "late"), 1), (("late", "first", "zoo"), 1), (("first", "paid", "late"), 2),
                             (("first", "late", "paid", "late", "zoo", "zoo"), 3)):
            with self.assertRaises(InvalidCase) as caught:
                table(book, facts)
            self.assertEqual(caught.exception.index, index)

    def test_the_book_stays_as_it_was(self):
        book = example_book()
        explained(book, ("late",))
        table(book, ("late",))
        self.assertEqual(book, example_book())

    def test_all_are_errors_of_the_package(self):
        for call in (lambda: table(example_book(), ()), lambda: explained(example_book(), ("zoo",))):
            with self.assertRaises(CourtError):
                call()


if __name__ == "__main__":
    unittest.main()
