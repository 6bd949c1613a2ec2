import unittest

from smallcourt.books import Book
from smallcourt.conditions import Condition
from smallcourt.errors import InvalidCase, InvalidDay, InvalidNumber, InvalidRuling, InvalidStatute, TooMany
from smallcourt.statutes import (
    Statute, count_days, first_turn_day, idle_amendments, restless, rulings_by_day, stood, touched, undone_on,
)
from tests.helpers import NOT_NAMES, all_cases, many_facts
from tests.makers import (
    AmendmentMaker, beside_and_around, plain_amended, read, rule, rulings, small_books, statute_book,
)

LAST = 10 ** 18
NOT_NUMBERS = (True, False, None, "0", 0.0, (), (0,), [], [0], "late")


def plain_books(book, dated):
    """The books before each amendment and after all, or None if one cannot be made."""
    found = [book]
    for _, amendment in dated:
        book = plain_amended(book, amendment)
        if book is None:
            return None
        found.append(book)
    return found


def plain_on(book, dated, day):
    return plain_books(book, dated)[sum(begin <= day for begin, _ in dated)]


def small_statutes(seed, count, most=6, longest=4):
    maker = AmendmentMaker(seed)
    found = []
    for book in small_books(seed + 1, count):
        found.append(Statute(book, maker.statute(book, maker.random.randint(0, most), longest)))
    return found


def days_around(statute):
    """All days up to some days behind the last amendment."""
    return range((statute.days or [0])[-1] + 3)


def told(book, case):
    ruling, way, _ = read(book, case)
    return ruling, way[-1] if way else None


class StatuteTest(unittest.TestCase):
    def assert_wrong(self, book, dated, index):
        with self.assertRaises(InvalidStatute) as caught:
            Statute(book, dated)
        self.assertEqual(caught.exception.index, index)

    def test_books_of_all_days(self):
        for statute in small_statutes(83, 80):
            for day in days_around(statute):
                self.assertEqual(statute(day), plain_on(statute.book, statute.amendments, day))
            self.assertEqual(statute(LAST), plain_books(statute.book, statute.amendments)[-1])
            self.assertEqual(statute.days, sorted(set(day for day, _ in statute.amendments)))

    def test_properties(self):
        book = statute_book()
        dated = ((3, ("strike", "mild")), (3, ("ruling", None, "x")), (7, ("ruling", None, "y")))
        statute = Statute(book, dated)
        self.assertEqual((statute.book, statute.amendments, statute.days), (book, dated, [3, 7]))
        statute.days.clear()
        self.assertEqual(statute.days, [3, 7])
        self.assertEqual([statute(day).ruling for day in (2, 3, 6, 7, 8)], ["free", "x", "x", "y", "y"])

    def test_without_amendments(self):
        statute = Statute(statute_book(), ())
        self.assertEqual((statute.days, statute.amendments), ([], ()))
        self.assertEqual((statute(0), statute(LAST)), (statute_book(), statute_book()))

    def test_sixty_and_sixty_one(self):
        dated = tuple((day, ("ruling", None, "abc"[day % 3])) for day in range(70))
        self.assertEqual(len(Statute(statute_book(), dated[:60]).amendments), 60)
        self.assert_wrong(statute_book(), dated[:61], 60)
        self.assert_wrong(statute_book(), dated, 60)
        self.assert_wrong(statute_book(), dated[:59] + ((0, ("ruling", None, "x")),) + dated[60:], 59)
        self.assert_wrong(statute_book(), dated[:60] + (None,), 60)

    def test_days_at_both_ends(self):
        dated = ((0, ("ruling", None, "x")), (LAST, ("ruling", None, "y")))
        statute = Statute(statute_book(), dated)
        self.assertEqual([statute(day).ruling for day in (0, 1, LAST - 1, LAST)], ["x", "x", "x", "y"])
        self.assertEqual(statute.days, [0, LAST])

    def test_wrong_days(self):
        right = (5, ("ruling", None, "x"))
        for wrong in (*NOT_NUMBERS, -1, LAST + 1, -LAST):
            self.assert_wrong(statute_book(), ((wrong, ("ruling", None, "x")),), 0)
            self.assert_wrong(statute_book(), (right, (wrong, ("ruling", None, "x"))), 1)
        self.assert_wrong(statute_book(), (right, (4, ("ruling", None, "x"))), 1)
        self.assert_wrong(statute_book(), (right, (6, ("ruling", None, "x")), right), 2)
        self.assertEqual(Statute(statute_book(), (right, right)).days, [5])

    def test_no_dated_amendments(self):
        right = (5, ("strike", "mild"))
        for wrong in (*NOT_NUMBERS, 5, ("strike", "mild"), (5,), (5, ("strike", "late"), 5), [5, ("strike", "late")],
                      (5, None), (5, ["strike", "late"]), (5, ()), (("strike", "late"), 5)):
            self.assert_wrong(statute_book(), (wrong,), 0)
            self.assert_wrong(statute_book(), (right, wrong, right), 1)

    def test_amendments_that_cannot_be_made_at_their_place(self):
        new = rule("new")
        strike = (5, ("strike", "mild"))
        self.assert_wrong(statute_book(), (strike, strike), 1)
        self.assert_wrong(statute_book(), ((4, ("ruling", "new", "x")), (5, ("add", None, new))), 0)
        self.assert_wrong(statute_book(), ((5, ("swap", "late")), (5, ("add", None, new))), 0)
        self.assertEqual(Statute(statute_book(), ((5, ("add", None, new)), (5, ("swap", "late"))))(5).names,
                         ["new", "late", "mild"])
        self.assert_wrong(statute_book(), (strike, (5, ("add", None, new)), (9, ("add", None, new))), 2)
        self.assert_wrong(statute_book(), ((5, ("condition", "mild", Condition(("zoo",), ()))),), 0)

    def test_invalid_days(self):
        statute = Statute(statute_book(), ((5, ("strike", "mild")),))
        for wrong in (*NOT_NUMBERS, -1, LAST + 1, 10 ** 30):
            with self.assertRaises(InvalidDay):
                statute(wrong)

    def test_extended(self):
        maker = AmendmentMaker(84)
        for statute in small_statutes(85, 40):
            dated = statute.amendments
            last = (statute.days or [0])[-1]
            amendment = maker.amendment(statute(last))
            if plain_amended(statute(last), amendment) is None:
                with self.assertRaises(InvalidStatute) as caught:
                    statute.extended((last, amendment))
                self.assertEqual(caught.exception.index, len(dated))
            else:
                for day in (last, last + 1):
                    more = statute.extended((day, amendment))
                    self.assertEqual(more.amendments, dated + ((day, amendment),))
                    self.assertEqual(more(day), plain_amended(statute(last), amendment))
                    self.assertEqual(more.book, statute.book)
            for wrong in (*NOT_NUMBERS, (last - 1, ("ruling", None, "x")), (True, ("ruling", None, "x"))):
                if dated or wrong != (-1, ("ruling", None, "x")):
                    with self.assertRaises(InvalidStatute) as caught:
                        statute.extended(wrong)
                    self.assertEqual(caught.exception.index, len(dated))
            self.assertEqual(statute.amendments, dated)

    def test_extended_beyond_sixty(self):
        statute = Statute(statute_book(), ())
        for day in range(60):
            statute = statute.extended((day, ("ruling", None, "abc"[day % 3])))
        with self.assertRaises(InvalidStatute) as caught:
            statute.extended((60, ("ruling", None, "x")))
        self.assertEqual((caught.exception.index, len(statute.amendments)), (60, 60))


class DaysOfCasesTest(unittest.TestCase):
    def test_rulings_by_day(self):
        for statute in small_statutes(86, 60, 10):
            for case in all_cases(statute.book.facts):
                expected = []
                for day in days_around(statute):
                    one = told(plain_on(statute.book, statute.amendments, day), case)
                    if not expected or expected[-1][1:] != one:
                        expected.append((day, *one))
                self.assertEqual(rulings_by_day(statute, case), expected)

    def test_only_the_decider_becomes_another(self):
        dated = ((4, ("ruling", "mild", "fine")), (6, ("strike", "mild")), (8, ("strike", "late")),
                 (8, ("add", None, rule("all", (), (), "fine"))))
        found = [(0, "warn", "mild"), (4, "fine", "mild"), (6, "fine", "late"), (8, "fine", "all")]
        self.assertEqual(rulings_by_day(Statute(statute_book(), dated), ("first", "late")), found)
        found = [(0, "free", None), (8, "fine", "all")]
        self.assertEqual(rulings_by_day(Statute(statute_book(), dated), ()), found)

    def test_amendments_of_day_0(self):
        dated = ((0, ("strike", "mild")), (0, ("ruling", "late", "x")), (1, ("ruling", "late", "y")))
        self.assertEqual(rulings_by_day(Statute(statute_book(), dated), ("first", "late")), [(0, "x", "late"), (1, "y", "late")])

    def test_changes_within_one_day_are_not_seen(self):
        dated = ((5, ("ruling", "late", "x")), (5, ("ruling", "late", "fine")), (6, ("ruling", None, "free")))
        self.assertEqual(rulings_by_day(Statute(statute_book(), dated), ("late",)), [(0, "fine", "late")])

    def test_first_turn_day_and_count_days(self):
        for statute in small_statutes(87, 50, 8):
            days = list(days_around(statute))
            books = [plain_on(statute.book, statute.amendments, day) for day in days]
            for case in all_cases(statute.book.facts)[::3]:
                found = [read(book, case)[0] for book in books]
                for ruling in ("a", "b", "c", "d", "zoo"):
                    first = found.index(ruling) if ruling in found else None
                    self.assertEqual(first_turn_day(statute, case, ruling), first)
                    for start in days[::2]:
                        for end in days:
                            many = sum(one == ruling for one in found[start:end + 1])
                            self.assertEqual(count_days(statute, case, ruling, start, end), many)
                    rest = LAST - days[-1] if found[-1] == ruling else 0
                    self.assertEqual(count_days(statute, case, ruling, 0, LAST), found.count(ruling) + rest)
                    self.assertEqual(count_days(statute, case, ruling, LAST, LAST), int(found[-1] == ruling))

    def test_ranges_of_days(self):
        statute = Statute(statute_book(), ((10, ("strike", "mild")), (20, ("ruling", "late", "warn"))))
        case = ("first", "late")
        ranges = {(0, 9): 10, (0, 10): 10, (9, 20): 2, (10, 19): 0, (15, 25): 6, (20, 20): 1, (19, 19): 0, (5, 5): 1,
                  (10 ** 17, 10 ** 17 + 4): 5, (0, LAST): LAST - 9, (20, 19): 0, (LAST, 0): 0, (3, 0): 0}
        for (first, last), many in ranges.items():
            self.assertEqual(count_days(statute, case, "warn", first, last), many)
        self.assertEqual(first_turn_day(statute, ("late",), "warn"), 20)
        self.assertEqual(first_turn_day(statute, case, "warn"), 0)
        self.assertIsNone(first_turn_day(statute, case, "zoo"))
        self.assertEqual(count_days(statute, case, "zoo", 0, LAST), 0)

    def test_wrong_cases_and_rulings_and_days(self):
        statute = Statute(statute_book(), ((10, ("strike", "mild")),))
        for wrong in (*NOT_NAMES, "zoo", "first", "late"):
            case = ("late", wrong)
            for call in (lambda: rulings_by_day(statute, case), lambda: first_turn_day(statute, case, None),
                         lambda: count_days(statute, case, None, None, None)):
                with self.assertRaises(InvalidCase) as caught:
                    call()
                self.assertEqual(caught.exception.index, 1)
        for wrong in NOT_NAMES:
            for call in (lambda: first_turn_day(statute, (), wrong), lambda: count_days(statute, (), wrong, None, -1)):
                with self.assertRaises(InvalidRuling):
                    call()
        for wrong in (*NOT_NUMBERS, -1, LAST + 1):
            for days in ((wrong, 5), (5, wrong), (wrong, wrong)):
                with self.assertRaises(InvalidDay):
                    count_days(statute, (), "free", *days)


class RestlessTest(unittest.TestCase):
    def plain_restless(self, statute):
        counts = []
        cases = all_cases(statute.book.facts)
        books = [rulings(plain_on(statute.book, statute.amendments, day)) for day in days_around(statute)]
        for place in range(len(cases)):
            counts.append(sum(books[day][place] != books[day - 1][place] for day in range(1, len(books))))
        most = max(counts)
        return cases[counts.index(most)], most

    def test_small_statutes(self):
        found = []
        for statute in small_statutes(88, 80, 12):
            self.assertEqual(restless(statute), self.plain_restless(statute))
            found.append(restless(statute)[1])
        self.assertGreater(max(found), 3)

    def test_amendments_of_day_0_turn_nothing(self):
        statute = Statute(statute_book(), ((0, ("ruling", None, "x")), (0, ("ruling", "mild", "y"))))
        self.assertEqual(restless(statute), ((), 0))

    def test_several_amendments_on_one_day(self):
        dated = ((3, ("ruling", None, "x")), (3, ("ruling", None, "free")), (4, ("ruling", "mild", "x")),
                 (4, ("ruling", "mild", "y")), (5, ("ruling", "mild", "warn")))
        self.assertEqual(restless(Statute(statute_book(), dated)), (("first", "late"), 2))

    def test_ten_facts_and_eleven(self):
        for count in (10, 11):
            facts = many_facts(count)
            book = Book(facts, (rule("r", facts[:8], (), "x"),), "y")
            statute = Statute(book, ((5, ("strike", "r")), (6, ("add", None, rule("s", facts[2:10], (), "x")))))
            if count == 10:
                self.assertEqual(restless(statute), (facts, 2))
            else:
                with self.assertRaises(TooMany):
                    restless(statute)


class RulesTest(unittest.TestCase):
    def plain_stood(self, statute, name):
        found = []
        days = list(days_around(statute))
        for day in days:
            if name in plain_on(statute.book, statute.amendments, day).names:
                if found and found[-1][1] == day - 1:
                    found[-1] = (found[-1][0], day)
                else:
                    found.append((day, day))
        if found and found[-1][1] == days[-1]:
            found[-1] = (found[-1][0], None)
        return found

    def test_stood(self):
        several = 0
        for statute in small_statutes(89, 80, 15):
            for name in ("raa", "rab", "rac", "new", "old", "zoo"):
                found = stood(statute, name)
                self.assertEqual(found, self.plain_stood(statute, name))
                several += len(found) > 1
        self.assertGreater(several, 5)

    def test_struck_and_added_anew(self):
        mild = rule("mild", ("paid",), (), "x")
        dated = ((4, ("strike", "mild")), (6, ("add", None, mild)), (8, ("strike", "mild")), (8, ("add", None, mild)),
                 (9, ("strike", "mild")), (9, ("ruling", None, "x")), (12, ("add", "late", mild)), (15, ("strike", "late")))
        statute = Statute(statute_book(), dated)
        self.assertEqual(stood(statute, "mild"), [(0, 3), (6, 8), (12, 14)])
        self.assertEqual(stood(statute, "late"), [(0, 14)])
        self.assertEqual(stood(Statute(statute_book(), dated[:7]), "mild"), [(0, 3), (6, 8), (12, None)])
        for name in ("zoo", "first", "free"):
            self.assertEqual(stood(statute, name), [])

    def test_ends_of_the_days(self):
        statute = Statute(statute_book(), ((0, ("strike", "mild")), (LAST, ("strike", "late"))))
        self.assertEqual((stood(statute, "mild"), stood(statute, "late")), ([], [(0, LAST - 1)]))
        statute = Statute(statute_book(), ((LAST, ("add", None, rule("new"))),))
        self.assertEqual((stood(statute, "new"), stood(statute, "late")), ([(LAST, None)], [(0, None)]))

    def plain_touched(self, before, amendment, name):
        """Tells whether an amendment touches a rule, told from the rule's side."""
        word, other, *more = amendment
        places = beside_and_around(before)

        def it_or_within(one):
            return one == name or name in places[one][1]

        if word in ("add", "before"):
            added = [more[0].name] + [one.name for one in inner_rules(more[0])]
            around = places[other][1] + ([other] if word == "add" else []) if other is not None else []
            return name in added or name in around
        if other is None:
            return False
        if word == "strike":
            return it_or_within(other) or (name in places and other in places[name][1])
        if word == "swap":
            beside = places[other][0]
            return it_or_within(other) or it_or_within(beside[beside.index(other) + 1])
        return it_or_within(other)

    def test_touched(self):
        found = []
        for statute in small_statutes(90, 120, 15):
            books = plain_books(statute.book, statute.amendments)
            for name in ("raa", "rab", "rac", "rad", "new", "old", "zoo"):
                expected = [index for index, (_, amendment) in enumerate(statute.amendments)
                            if self.plain_touched(books[index], amendment, name)]
                self.assertEqual(touched(statute, name), expected)
                found.extend(expected)
        self.assertGreater(len(found), 400)

    def test_each_way_to_touch(self):
        inner = rule("c", ("paid",), (), "x", (rule("d", (), (), "y"), rule("e", (), (), "z")))
        book = Book(("first", "late", "paid"), (rule("a", (), (), "w", (rule("b"), inner)), rule("f")), "n")
        new = rule("new", (), (), "x", (rule("in", (), (), "y"),))
        ways = (
            (("add", None, new), ["in", "new"]), (("add", "c", new), ["a", "c", "in", "new"]),
            (("before", "d", new), ["a", "c", "in", "new"]), (("before", "a", new), ["in", "new"]),
            (("strike", "a"), ["a", "b", "c", "d", "e"]), (("strike", "c"), ["a", "c", "d", "e"]),
            (("strike", "e"), ["a", "c", "e"]), (("ruling", "c", "x"), ["a", "c"]), (("ruling", "f", "q"), ["f"]),
            (("condition", "d", Condition((), ())), ["a", "c", "d"]), (("ruling", None, "q"), []),
            (("swap", "d"), ["a", "c", "d", "e"]), (("swap", "b"), ["a", "b", "c"]), (("swap", "a"), ["a", "f"]),
        )
        for amendment, names in ways:
            statute = Statute(book, ((3, amendment),))
            names_of_rules = ("a", "b", "c", "d", "e", "f", "in", "new", "zoo")
            touching = [name for name in names_of_rules if touched(statute, name) == [0]]
            self.assertEqual(touching, names)


class UndoneTest(unittest.TestCase):
    def test_idle_amendments(self):
        idle = 0
        for statute in small_statutes(91, 80, 8):
            dated = statute.amendments
            expected = []
            for index in range(len(dated)):
                less = dated[:index] + dated[index + 1:]
                if plain_books(statute.book, less) is not None:
                    if all(rulings(plain_on(statute.book, dated, day)) == rulings(plain_on(statute.book, less, day))
                           for day in days_around(statute)):
                        expected.append(index)
            self.assertEqual(idle_amendments(statute), expected)
            idle += len(expected)
        self.assertGreater(idle, 50)

    def test_amendments_that_others_need(self):
        never = rule("new", ("late",), (), "free")
        dated = ((3, ("add", None, never)), (4, ("ruling", "new", "x")), (4, ("ruling", "new", "free")))
        # Without the rule, the other two cannot be made; each of these can be left out alone only on its day.
        self.assertEqual(idle_amendments(Statute(statute_book(), dated)), [1])
        self.assertEqual(idle_amendments(Statute(statute_book(), dated[:1])), [0])

    def test_several_amendments_on_one_day_can_be_idle(self):
        dated = ((3, ("ruling", None, "x")), (3, ("ruling", None, "y")), (5, ("ruling", "late", "fine")))
        self.assertEqual(idle_amendments(Statute(statute_book(), dated)), [0, 2])
        self.assertEqual(idle_amendments(Statute(statute_book(), ())), [])

    def test_undone_on(self):
        found = []
        for statute in small_statutes(92, 80, 10):
            for index, (begin, _) in enumerate(statute.amendments):
                before = plain_on(statute.book, statute.amendments, begin - 1) if begin else statute.book
                later = [day for day in days_around(statute) if day > begin]
                alike = [day for day in later
                         if rulings(plain_on(statute.book, statute.amendments, day)) == rulings(before)]
                self.assertEqual(undone_on(statute, index), alike[0] if alike else None)
                found.append(undone_on(statute, index))
        self.assertGreater(len([day for day in found if day is None]), 20)
        self.assertGreater(len([day for day in found if day is not None]), 50)

    def test_undone_examples(self):
        dated = ((0, ("ruling", None, "x")), (4, ("ruling", "late", "y")), (6, ("ruling", None, "free")),
                 (6, ("ruling", "late", "fine")), (9, ("ruling", None, "free")))
        statute = Statute(statute_book(), dated)
        self.assertEqual([undone_on(statute, index) for index in range(5)], [6, None, None, None, 10])
        self.assertEqual(undone_on(Statute(statute_book(), ((0, ("ruling", None, "free")),)), 0), 1)

    def test_undone_on_the_last_days(self):
        statute = Statute(statute_book(), ((LAST - 1, ("ruling", None, "x")), (LAST, ("ruling", None, "free"))))
        self.assertEqual([undone_on(statute, 0), undone_on(statute, 1)], [LAST, None])

    def test_wrong_numbers(self):
        statute = Statute(statute_book(), ((3, ("strike", "mild")), (4, ("ruling", None, "x"))))
        for wrong in (*NOT_NUMBERS, -1, 2, 60, -2):
            with self.assertRaises(InvalidNumber):
                undone_on(statute, wrong)
        with self.assertRaises(InvalidNumber):
            undone_on(Statute(statute_book(), ()), 0)

    def test_sixty_facts_and_amendments(self):
        facts = many_facts(60)
        pairs = tuple(rule("r" + facts[at], (facts[at], facts[59 - at]), (), "x") for at in range(30))
        dated = tuple((at, ("swap", "r" + facts[at])) for at in range(0, 30, 2))
        dated += ((40, ("ruling", "r" + facts[7], "x")), (50, ("strike", "r" + facts[7])), (60, ("strike", "r" + facts[9])))
        statute = Statute(Book(facts, pairs, "y"), dated)
        self.assertEqual(idle_amendments(statute), list(range(16)))
        self.assertEqual([undone_on(statute, index) for index in (0, 14, 15, 16, 17)], [1, 29, 41, None, None])


def inner_rules(one):
    found = []
    for inner in one.exceptions:
        found.extend([inner] + inner_rules(inner))
    return found


if __name__ == "__main__":
    unittest.main()
