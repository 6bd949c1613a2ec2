import unittest
from math import lcm

from smallcourt.books import Book, Rule
from smallcourt.errors import InvalidCase, InvalidDay, InvalidRuling, InvalidSpan, TooMany, UnknownRule
from smallcourt.seasons import Seasons, always, count_rulings, next_day
from tests.helpers import FACTS, NOT_NAMES, all_cases, many_facts
from tests.makers import BookMaker, example_book, read, rule, small_books, statute_book

LAST = 10 ** 18
NOT_NUMBERS = (True, False, None, "0", 0.0, (), (0,), [], [0], "late")
WRONG_SPANS = (
    *NOT_NUMBERS, 7, (7, 5), (7, 5, 2, 0), [7, 5, 2], ((7, 5, 2),), "752", (0, 0, 1), (101, 0, 1), (-7, 0, 1), (7, -1, 2),
    (7, 7, 2), (7, 0, 0), (7, 0, 8), (7, 0, -1), (True, 0, 1), (1, False, 1), (1, 0, True), (None, 0, 1), (7, "5", 2),
    (7, 5, 2.0), (1, 1, 1), (100, 100, 1), (100, 0, 101), ((7,), 5, 2),
)


def plain_in_force(span, day):
    """Tells whether a day is one of the days of a span, by a walk through days that differ by the period."""
    period, first, count = span
    return any((first + step - day) % period == 0 for step in range(count))


def plain_rules(rules, spans, day):
    found = []
    for one in rules:
        if one.name not in spans or plain_in_force(spans[one.name], day):
            found.append(Rule(one.name, one.condition, one.ruling, plain_rules(one.exceptions, spans, day)))
    return tuple(found)


def plain_book(book, spans, day):
    return Book(book.facts, plain_rules(book.rules, spans, day), book.ruling)


def random_seasons(seed, count, periods):
    """Tuples (book, spans) of small books."""
    maker = BookMaker(seed)
    found = []
    for book in small_books(seed + 1, count):
        spans = {}
        for name in maker.random.sample(book.names, len(book.names)):
            if maker.random.random() < 0.6:
                period = maker.random.choice(periods)
                spans[name] = (period, maker.random.randint(0, period - 1), maker.random.randint(1, period))
        found.append((book, spans))
    return found


class SeasonsTest(unittest.TestCase):
    def test_all_days_of_two_periods(self):
        for book, spans in random_seasons(101, 60, (1, 2, 3, 4, 6)):
            seasons = Seasons(book, spans)
            self.assertEqual(seasons.period, lcm(*[span[0] for span in spans.values()]))
            for start in (0, LAST - 2 * seasons.period + 1):
                for day in range(start, start + 2 * seasons.period):
                    self.assertEqual(seasons(day), plain_book(book, spans, day))

    def test_spans_over_the_end_of_the_period(self):
        seasons = Seasons(statute_book(), {"mild": (7, 5, 4)})
        there = [day for day in range(21) if "mild" in seasons(day)]
        self.assertEqual(there, [0, 1, 5, 6, 7, 8, 12, 13, 14, 15, 19, 20])

    def test_ends_of_the_ranges(self):
        for span, days in {(1, 0, 1): 100, (100, 99, 1): 1, (100, 0, 100): 100, (100, 99, 100): 100, (100, 0, 1): 1}.items():
            seasons = Seasons(statute_book(), {"mild": span})
            self.assertEqual(sum("mild" in seasons(day) for day in range(100)), days)

    def test_rules_that_are_not_there_with_their_exceptions(self):
        seasons = Seasons(statute_book(), {"late": (2, 0, 1), "mild": (3, 0, 1)})
        names = [seasons(day).names for day in range(6)]
        self.assertEqual(names, [["late", "mild"], [], ["late"], [], ["late"], []])
        seasons = Seasons(statute_book(), {"mild": (3, 0, 1), "late": (2, 0, 1)})
        self.assertEqual([seasons(day).names for day in range(6)], names)

    def test_period(self):
        self.assertEqual(Seasons(statute_book(), {}).period, 1)
        self.assertEqual(Seasons(statute_book(), {"mild": (7, 0, 1)}).period, 7)
        self.assertEqual(Seasons(statute_book(), {"mild": (12, 0, 1), "late": (18, 3, 2)}).period, 36)
        facts = many_facts(60)
        book = Book(facts, tuple(rule("r" + name) for name in facts[:40]), "n")
        spans = {"r" + facts[at]: (at + 61, at, 1) for at in range(40)}
        self.assertEqual(Seasons(book, spans).period, lcm(*range(61, 101)))
        self.assertEqual(Seasons(book, spans)(LAST), plain_book(book, spans, LAST))

    def test_without_spans(self):
        seasons = Seasons(example_book(), {})
        self.assertEqual((seasons(0), seasons(LAST)), (example_book(), example_book()))
        self.assertEqual(count_rulings(seasons, ("late",), 5), {"keep": 0, "none": 0, "pay": 5, "warn": 0})
        self.assertEqual(always(seasons), {"keep": 6, "none": 6, "pay": 2, "warn": 2})

    def test_spans_are_not_kept(self):
        spans = {"mild": (7, 5, 2)}
        seasons = Seasons(statute_book(), spans)
        spans["mild"] = (2, 0, 1)
        spans["late"] = (3, 0, 1)
        self.assertEqual((seasons.period, seasons(0).names), (7, ["late"]))
        count_rulings(seasons, (), 5).clear()
        self.assertEqual(count_rulings(seasons, (), 5), {"fine": 0, "free": 5, "warn": 0})

    def test_wrong_spans(self):
        for wrong in WRONG_SPANS:
            for spans in ({"mild": wrong}, {"mild": wrong, "late": wrong}, {"mild": wrong, "late": (7, 5, 2)}):
                with self.assertRaises(InvalidSpan) as caught:
                    Seasons(statute_book(), spans)
                self.assertEqual(caught.exception.rule_name, "mild")
            with self.assertRaises(InvalidSpan) as caught:
                Seasons(statute_book(), {"mild": (7, 5, 2), "late": wrong})
            self.assertEqual(caught.exception.rule_name, "late")

    def test_unknown_rules_ahead(self):
        keys = [key for key in NOT_NAMES if not isinstance(key, list)]
        for wrong in (*keys, "zoo", "first", "free"):
            for spans in ({wrong: (7, 5, 2)}, {"mild": None, wrong: (7, 5, 2)}, {"mild": (7, 5, 2), wrong: None}):
                with self.assertRaises(UnknownRule):
                    Seasons(statute_book(), spans)

    def test_invalid_days(self):
        seasons = Seasons(statute_book(), {"mild": (7, 5, 2)})
        for wrong in (*NOT_NUMBERS, -1, LAST + 1, 10 ** 30):
            with self.assertRaises(InvalidDay):
                seasons(wrong)


class CountTest(unittest.TestCase):
    def test_small_books(self):
        for book, spans in random_seasons(103, 40, (1, 2, 3, 4)):
            seasons = Seasons(book, spans)
            books = [plain_book(book, spans, day) for day in range(2 * seasons.period)]
            for case in all_cases(book.facts):
                found = [read(one, case)[0] for one in books]
                for days in range(2 * seasons.period + 1):
                    expected = [(ruling, found[:days].count(ruling)) for ruling in sorted(book.rulings)]
                    self.assertEqual(list(count_rulings(seasons, case, days).items()), expected)
                told = count_rulings(seasons, case, LAST)
                whole = LAST // seasons.period
                rest = LAST % seasons.period
                for ruling in book.rulings:
                    many = found[:seasons.period].count(ruling) * whole + found[:rest].count(ruling)
                    self.assertEqual(told[ruling], many)
                self.assertEqual(sum(told.values()), LAST)

    def test_numbers_of_days(self):
        seasons = Seasons(statute_book(), {"mild": (7, 5, 2)})
        case = ("first", "late")
        self.assertEqual(count_rulings(seasons, case, 0), {"fine": 0, "free": 0, "warn": 0})
        self.assertEqual(count_rulings(seasons, case, 6), {"fine": 5, "free": 0, "warn": 1})
        for wrong in (*NOT_NUMBERS, -1, LAST + 1):
            with self.assertRaises(InvalidDay):
                count_rulings(seasons, case, wrong)

    def test_order_of_errors(self):
        spans = {"mild": (97, 0, 1), "late": (89, 0, 1)}
        seasons = Seasons(statute_book(), spans)
        self.assertEqual(seasons.period, 97 * 89)
        for wrong in (*NOT_NAMES, "zoo", "first", "late"):
            for call in (lambda: count_rulings(seasons, ("late", wrong), -1),
                         lambda: next_day(seasons, ("late", wrong), None, -1)):
                with self.assertRaises(InvalidCase) as caught:
                    call()
                self.assertEqual(caught.exception.index, 1)
        with self.assertRaises(InvalidDay):
            count_rulings(seasons, (), -1)
        for wrong in NOT_NAMES:
            with self.assertRaises(InvalidRuling):
                next_day(seasons, (), wrong, -1)
        for wrong in (*NOT_NUMBERS, -1, LAST + 1):
            with self.assertRaises(InvalidDay):
                next_day(seasons, (), "zoo", wrong)
        for call in (lambda: count_rulings(seasons, (), 5), lambda: next_day(seasons, (), "zoo", 5), lambda: always(seasons)):
            with self.assertRaises(TooMany):
                call()

    def test_long_periods(self):
        for periods, right in (((50, 100), True), ((100, 50, 8, 25), True), ((71, 70), True), ((72, 71), False)):
            names = ["ra", "rb", "rc", "rd"][:len(periods)]
            book = Book(FACTS, tuple(rule(name, (), (), name) for name in names), "n")
            seasons = Seasons(book, {name: (period, 3, 2) for name, period in zip(names, periods)})
            self.assertEqual(seasons.period <= 5000, right)
            if right:
                found = [read(plain_book(book, {name: (period, 3, 2) for name, period in zip(names, periods)}, day), ())[0]
                         for day in range(200)]
                self.assertEqual(count_rulings(seasons, (), 200), {ruling: found.count(ruling) for ruling in book.rulings})
                self.assertEqual(next_day(seasons, (), "ra", 0), 3)
                self.assertEqual(always(seasons), {ruling: 0 for ruling in book.rulings})
            else:
                for call in (lambda: count_rulings(seasons, (), 0), lambda: next_day(seasons, (), "ra", 0),
                             lambda: always(seasons)):
                    with self.assertRaises(TooMany):
                        call()

    def test_around_five_thousand_days(self):
        # No periods up to 100 have 5,000 itself as their least common multiple, as 625 divides it.
        book = Book(FACTS, (rule("ra", (), (), "x"), rule("rb", (), (), "y"), rule("rc", (), (), "z")), "n")
        for periods, period in (((64, 78, 26), 2496), ((78, 64, 1), 2496), ((96, 52, 1), 1248), ((71, 70, 1), 4970),
                                ((99, 50, 1), 4950), ((13, 96, 4), 1248), ((24, 16, 13), 624), ((78, 64, 4), 2496),
                                ((96, 91, 4), 8736), ((63, 80, 5), 5040), ((87, 58, 29), 174), ((59, 85, 1), 5015)):
            spans = {name: (one, 0, 1) for name, one in zip(book.names, periods)}
            seasons = Seasons(book, spans)
            self.assertEqual(seasons.period, period)
            if period > 5000:
                with self.assertRaises(TooMany):
                    count_rulings(seasons, (), 1)
            else:
                self.assertEqual(sum(count_rulings(seasons, (), LAST).values()), LAST)


class NextDayTest(unittest.TestCase):
    def test_small_books(self):
        for book, spans in random_seasons(105, 30, (1, 2, 3, 4)):
            seasons = Seasons(book, spans)
            books = [plain_book(book, spans, day) for day in range(3 * seasons.period)]
            shift = LAST - LAST % seasons.period
            for case in all_cases(book.facts)[::2]:
                found = [read(one, case)[0] for one in books]
                for ruling in book.rulings + ["zoo"]:
                    for day in range(2 * seasons.period):
                        later = [at for at in range(day, len(found)) if found[at] == ruling]
                        self.assertEqual(next_day(seasons, case, ruling, day), later[0] if later else None)
                    later = [at for at in range(LAST - shift, len(found)) if found[at] == ruling]
                    self.assertEqual(next_day(seasons, case, ruling, LAST), later[0] + shift if later else None)

    def test_behind_the_last_day(self):
        seasons = Seasons(statute_book(), {"mild": (7, 5, 2)})
        case = ("first", "late")
        self.assertEqual(next_day(seasons, case, "warn", LAST), LAST + 4)
        self.assertEqual(next_day(seasons, case, "fine", LAST), LAST)
        self.assertEqual(next_day(seasons, case, "warn", 6), 6)
        self.assertEqual(next_day(seasons, case, "warn", 7), 12)
        for ruling in ("free", "zoo"):
            self.assertIsNone(next_day(seasons, case, ruling, 0))


class AlwaysTest(unittest.TestCase):
    def test_small_books(self):
        unlike = 0
        for book, spans in random_seasons(107, 60, (1, 2, 3, 4, 5)):
            seasons = Seasons(book, spans)
            books = [plain_book(book, spans, day) for day in range(seasons.period)]
            expected = {ruling: 0 for ruling in sorted(book.rulings)}
            for case in all_cases(book.facts):
                found = [read(one, case)[0] for one in books]
                if len(set(found)) == 1:
                    expected[found[0]] += 1
            self.assertEqual(list(always(seasons).items()), list(expected.items()))
            unlike += 2 ** len(book.facts) - sum(expected.values())
        self.assertGreater(unlike, 100)

    def test_ten_facts_and_eleven(self):
        for count in (10, 11):
            facts = many_facts(count)
            book = Book(facts, (rule("r", facts[:3], (), "x", (rule("s", facts[9:10], (), "z"),)),), "y")
            seasons = Seasons(book, {"s": (50, 0, 1), "r": (99, 0, 99)})
            if count == 10:
                self.assertEqual(always(seasons), {"x": 64, "y": 896, "z": 0})
            else:
                with self.assertRaises(TooMany):
                    always(seasons)

    def test_many_rules_and_days(self):
        maker = BookMaker(109)
        facts = many_facts(10)
        book = maker.book(facts, 40, 3, 3)
        spans = {name: (maker.random.choice((45, 99, 22, 10)), 3, 2) for name in book.names[::2]}
        seasons = Seasons(book, spans)
        self.assertEqual(seasons.period, 990)
        cases = all_cases(facts)
        lasting = {ruling: 0 for ruling in sorted(book.rulings)}
        days = sorted(set(tuple(plain_in_force(span, day) for span in spans.values()) for day in range(990)))
        books = [Book(facts, rules_there(book.rules, dict(zip(spans, there))), book.ruling) for there in days]
        for case in cases:
            found = set(read(one, case)[0] for one in books)
            if len(found) == 1:
                lasting[found.pop()] += 1
        self.assertEqual(always(seasons), lasting)
        found = [read(plain_book(book, spans, day), cases[14])[0] for day in range(990)]
        self.assertEqual(count_rulings(seasons, cases[14], 990), {ruling: found.count(ruling) for ruling in book.rulings})


def rules_there(rules, there):
    """The rules that are in force, by a dict from names to booleans."""
    return tuple(Rule(one.name, one.condition, one.ruling, rules_there(one.exceptions, there))
                 for one in rules if there.get(one.name, True))


if __name__ == "__main__":
    unittest.main()
