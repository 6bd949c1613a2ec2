"""What the document promises over the whole program."""

import unittest
from copy import copy

from smallcourt.amendments import amended
from smallcourt.books import Book
from smallcourt.codec import decode_book, encode_book
from smallcourt.comparison import clashes, first_unlike, swapped, unlike_count
from smallcourt.conditions import Condition
from smallcourt.counting import cases, counts, decided_by, idle_facts, idle_rules, nth_case, rank, share, swing
from smallcourt.daybooks import Daybook
from smallcourt.dockets import Docket, effect_of, fewest_appeals, looked_at, retried, without
from smallcourt.errors import TooMany
from smallcourt.facts import case_number, case_of
from smallcourt.hearings import Hearing, best_guess, fewest_questions, hear, next_question
from smallcourt.learning import first_misfit, least_book
from smallcourt.live import LiveCourt
from smallcourt.notation import format_book, parse_book
from smallcourt.reasons import core, is_reason, reason, turn, turn_to
from smallcourt.ruling import decider, rules_looked_at, way
from smallcourt.seasons import Seasons, always, count_rulings, next_day
from smallcourt.shapes import flat, lean, under
from smallcourt.statutes import (
    Statute, count_days, first_turn_day, idle_amendments, restless, rulings_by_day, stood, touched, undone_on,
)
from smallcourt.tables import explained, table
from smallcourt.watchers import ConditionWatcher, OrderWatcher
from tests.helpers import all_cases
from tests.makers import AmendmentMaker, BookMaker, nested_book, read, rule, small_books, statute_book

DAYS = (0, 1, 10 ** 18)


def drawn_books():
    return small_books(501, 120) + [nested_book(seed, 1 + seed % 5, 2 + seed % 9) for seed in range(80)]


def plainly(book, case):
    """(ruling, decider) as a plain reader finds them."""
    ruling, names, _ = read(book, case)
    return ruling, names[-1] if names else None


class AlikeTest(unittest.TestCase):
    """A case is ruled alike in whatever way it is ruled."""

    def assert_alike(self, book, other):
        for case in all_cases(book.facts):
            self.assertEqual((other(case), decider(other, case)), plainly(book, case))

    def test_books_told_in_another_way(self):
        for book in drawn_books():
            self.assert_alike(book, book)
            self.assert_alike(book, parse_book(format_book(book)))
            self.assert_alike(book, decode_book(encode_book(book)))
            for day in DAYS:
                self.assert_alike(book, Statute(book, ())(day))
                self.assert_alike(book, Seasons(book, {})(day))
            self.assert_alike(book, LiveCourt(book).book)
            self.assert_alike(book, Daybook(f"{format_book(book)}\ncourt\nundo").finish().book)

    def test_flat_and_lean_books(self):
        many = 0
        for book in drawn_books():
            try:
                self.assert_alike(book, flat(book))
            except TooMany:
                many += 1
            less = lean(book)
            for case in all_cases(book.facts):
                self.assertEqual(less(case), read(book, case)[0])
                # A rule that lean leaves out no longer decides; the others do what they did before.
                if plainly(book, case)[1] in less:
                    self.assertEqual(decider(less, case), plainly(book, case)[1])
        self.assertLess(many, 100)

    def test_dockets_and_live_courts(self):
        for book in drawn_books():
            labels = ["l" + chr(97 + number // 26) + chr(97 + number % 26) for number in range(2 ** len(book.facts))]
            pairs = list(zip(labels, all_cases(book.facts)))
            docket = Docket((book,), tuple((label, case, (), 0) for label, case in pairs[:40]))
            court = LiveCourt(book)
            for label, case in pairs[:40]:
                ruling, name = plainly(book, case)
                self.assertEqual(docket[label], (ruling, name, case))
                self.assertEqual(court.judge(label, case), ruling)
                self.assertEqual(court.judged[-1], (label, case, ruling, name))
            self.assertEqual(court.stale(), [])

    def test_other_ways_to_tell_a_ruling(self):
        for book in drawn_books()[::2]:
            found = {ruling: [] for ruling in book.rulings}
            deciders = []
            for case in all_cases(book.facts):
                ruling, name = plainly(book, case)
                self.assertEqual(hear(book, case, [])[0], ruling)
                self.assertEqual(explained(book, case).split("\n")[-1], f"so {ruling}")
                self.assertEqual(rulings_by_day(Statute(book, ()), case), [(0, ruling, name)])
                self.assertEqual(rank(book, case), len(found[ruling]))
                found[ruling].append(case)
                deciders.append(name)
            self.assertEqual(counts(book), {ruling: len(found[ruling]) for ruling in book.rulings})
            self.assertEqual([decided_by(book, name) for name in [*book.names, None]],
                             [deciders.count(name) for name in [*book.names, None]])
            self.assertEqual(table(book, book.facts).count("\n"), 2 ** len(book.facts) - 1)
            self.assertIsNone(first_misfit(book, [(case, ruling) for ruling in found for case in found[ruling]]))


class Changeable:
    """What a caller may change: the returned lists and dicts, also those within others."""

    @staticmethod
    def spoil(value):
        if isinstance(value, (list, tuple)):
            for one in value:
                Changeable.spoil(one)
        if isinstance(value, (list, dict)):
            value.clear()
        if isinstance(value, list):
            value.append("spoiled")

    @staticmethod
    def shown(value):
        """A value in which all lists and dicts are copied."""
        if isinstance(value, (list, tuple)):
            return type(value)([Changeable.shown(one) for one in value])
        return dict(value) if isinstance(value, dict) else copy(value)


class TwiceTest(unittest.TestCase):
    """All functions give equal results when they are asked again, and change nothing that is handed in."""

    def assert_twice(self, function, *arguments):
        before = Changeable.shown(arguments)
        first = function(*arguments)
        if not isinstance(first, (str, list, tuple, dict, int, bool, Book, Condition, type(None))):
            first = None
        kept = Changeable.shown(first)
        Changeable.spoil(first)
        second = function(*arguments)
        if first is not None:
            self.assertEqual(second, kept, function)
        for one, other in zip(arguments, before):
            if isinstance(one, (str, list, tuple, dict, int, bool, Book, Condition, type(None))):
                self.assertEqual(one, other, function)

    def test_books(self):
        maker = BookMaker(503)
        for book in small_books(504, 30):
            case = maker.random.choice(all_cases(book.facts))
            number = case_number(book.facts, case)
            fact, ruling = book.facts[0], book(case)
            condition = Condition(case, tuple(name for name in book.facts if name not in case))
            calls = [
                (case_number, book.facts, case), (case_of, book.facts, number), (decider, book, case), (way, book, case),
                (rules_looked_at, book, case), (reason, book, case), (is_reason, book, case, condition),
                (core, book, case, condition), (turn, book, case), (turn_to, book, case, ruling), (counts, book),
                (decided_by, book, None), (idle_rules, book), (nth_case, book, ruling, 0), (rank, book, case),
                (swing, book, fact), (idle_facts, book), (share, book, ruling, {fact: (1, 3)}),
                (first_unlike, book, Book(book.facts, (), "x")), (unlike_count, book, Book(book.facts, (), "x")), (clashes, book),
                (lean, book), (hear, book, case, list(book.facts)), (encode_book, book), (format_book, book),
                (explained, book, case), (table, book, (fact,)), (first_misfit, book, [(case, ruling), (case, "zoo")]),
                (least_book, book.facts, [(case, "x"), ((), "y")], 2), (decode_book, encode_book(book)),
                (parse_book, format_book(book)), (lambda: book.names,), (lambda: book.rulings,), (flat, book),
                (lambda: list(cases(book, ruling, 0, 99)),),
            ]
            for name in book.names:
                calls += [(decided_by, book, name), (amended, book, ("strike", name)), (amended, book, ("ruling", name, "x"))]
                calls += [(amended, book, ("before", name, rule("zoo"))), (amended, book, ("add", name, rule("zoo")))]
            if len(book.rules) > 1:
                calls.append((swapped, book, book.rules[0].name))
            if len(book.facts) > 1:
                calls.append((under, book, Condition((fact,), ())))
            for call in calls:
                self.assert_twice(*call)

    def test_hearings(self):
        for book in small_books(505, 30):
            hearing = Hearing(book)
            hearing.tell(book.facts[0], True)
            for call in (hearing.possible, hearing.settled, hearing.deciders, hearing.open_count, lambda: hearing.known):
                self.assert_twice(call)
            for function in (fewest_questions, next_question, best_guess):
                self.assert_twice(function, hearing)
            if len(book.facts) > 1:
                self.assert_twice(hearing.possible_after, book.facts[1], False)
            self.assertEqual(hearing.known, {book.facts[0]: True})

    def test_statutes(self):
        maker = AmendmentMaker(506)
        for book in small_books(507, 20):
            dated = maker.statute(book, 6, 9)
            statute = Statute(book, dated)
            case = maker.random.choice(all_cases(book.facts))
            calls = [(statute, 5), (lambda: statute.days,), (lambda: statute.amendments,), (lambda: statute.book,),
                     (rulings_by_day, statute, case), (idle_amendments, statute), (first_turn_day, statute, case, "a"),
                     (count_days, statute, case, "a", 1, 9), (restless, statute),
                     (lambda: statute.extended((10 ** 18, ("ruling", None, "x"))).amendments,)]
            for name in ["new", *book.names]:
                calls += [(stood, statute, name), (touched, statute, name)]
            calls += [(undone_on, statute, index) for index in range(6)]
            for call in calls:
                self.assert_twice(*call)
            self.assertEqual((statute.book, statute.amendments), (book, dated))

    def test_seasons(self):
        maker = BookMaker(508)
        for book in small_books(509, 20):
            spans = {name: (7, 2, 3) for name in book.names[:2]}
            seasons = Seasons(book, spans)
            case = maker.random.choice(all_cases(book.facts))
            for call in ((seasons, 3), (lambda: seasons.period,), (count_rulings, seasons, case, 99),
                         (next_day, seasons, case, "a", 4), (always, seasons)):
                self.assert_twice(*call)
            self.assertEqual(spans, {name: (7, 2, 3) for name in book.names[:2]})
            told = always(seasons)
            spans.clear()
            self.assertEqual((always(seasons), seasons.period), (told, 7 if book.names else 1))

    def test_dockets(self):
        book = statute_book()
        docket = Docket((book, Book(book.facts, (), "free")), (
            ("ann", ("late",), (), 0), ("bob", ("late",), (("ann", "fine", "first"),), 0),
        ))
        for call in ((lambda: docket["bob"],), (lambda: (docket.books, docket.entries, len(docket)),), (looked_at, docket, "bob"),
                     (effect_of, docket, "ann", "free"), (lambda: without(docket, "ann").entries,),
                     (lambda: retried(docket, "ann", ()).entries,), (fewest_appeals, docket, "bob", "fine", 3)):
            self.assert_twice(*call)

    def test_live_courts(self):
        operations = [("judge", "ann", ("first", "late")), ("amend", ("strike", "mild")), ("judge", "bob", ())]
        court = LiveCourt(statute_book())
        court.apply_all(operations)
        for call in ((lambda: court.judged,), (lambda: court.history,), (court.stale,), (lambda: court.book,),
                     (court.tried, operations[1:1] + [("renew", "ann"), ("amend", ("ruling", "late", "x"))], False),
                     (lambda: LiveCourt.replay(statute_book(), operations).judged,)):
            self.assert_twice(*call)
        self.assertEqual(court.history, operations)

    def test_watchers(self):
        watcher = ConditionWatcher(statute_book(), "mild")
        watcher.see(("first", "late"), "warn")
        orders = OrderWatcher(statute_book())
        orders.see((), "free")
        for call in ((lambda: watcher.candidates,), (lambda: watcher.records,), (watcher.possible, ("late",)), (watcher.telling,),
                     (lambda: orders.records,),
                     (lambda: orders.first_order,), (lambda: orders.order_count,), (orders.sure, "late", "late")):
            self.assert_twice(*call)

    def test_daybooks(self):
        daybook = Daybook(f"{format_book(statute_book())}\ncourt\njudge ann late\nstrike late")
        for call in ((lambda: daybook.results,), (lambda: daybook.finish().judged,), (lambda: daybook.finish().history,)):
            self.assert_twice(*call)


class ComparedTest(unittest.TestCase):
    """Objects of the package are unequal to anything else, and contain nothing else."""

    def test_equality(self):
        book = statute_book()
        others = (0, True, False, None, "late", "", (), ("late",), [], ["late"], 1.5)
        for made in (book, book["late"], book["late"].condition):
            for other in others:
                self.assertIs(made == other, False)
                self.assertIs(made != other, True)
        docket = Docket((book,), (("ann", (), (), 0),))
        for other in others:
            self.assertIs(other in docket, False)
            if other != "late":
                self.assertIs(other in book, False)
        self.assertEqual(book, decode_book(encode_book(book)))
        self.assertNotEqual(book, parse_book(format_book(book - "mild")))


if __name__ == "__main__":
    unittest.main()
