"""The examples of the document's interface."""

import unittest

from smallcourt.amendments import amended
from smallcourt.books import Book
from smallcourt.codec import decode_book, encode_book
from smallcourt.comparison import clashes, first_unlike, swapped, unlike_count
from smallcourt.conditions import Condition
from smallcourt.counting import cases, counts, decided_by, idle_facts, idle_rules, nth_case, rank, share, swing
from smallcourt.daybooks import Daybook
from smallcourt.dockets import Docket, effect_of, fewest_appeals, looked_at, retried, without
from smallcourt.errors import (
    DaybookError, DecodeError, InvalidBook, InvalidCase, InvalidCondition, InvalidDocket, InvalidOperation, InvalidStatute,
    InvalidText, NoNeighbor,
)
from smallcourt.facts import case_number, case_of
from smallcourt.hearings import Hearing, best_guess, fewest_questions, hear, next_question
from smallcourt.learning import first_misfit, least_book
from smallcourt.live import LiveCourt
from smallcourt.notation import format_book, parse_book
from smallcourt.reasons import core, is_reason, reason, turn, turn_to
from smallcourt.ruling import decider, rules_looked_at, way
from smallcourt.seasons import Seasons, always, count_rulings, next_day
from smallcourt.shapes import flat, lean, under
from smallcourt.statutes import (
    Statute, count_days, first_turn_day, restless, rulings_by_day, stood, touched, undone_on,
)
from smallcourt.tables import explained, table
from smallcourt.watchers import ConditionWatcher, OrderWatcher
from tests.helpers import FACTS
from tests.makers import example_book, rule, statute_book


class FirstStageTest(unittest.TestCase):
    def test_facts(self):
        self.assertEqual([case_number(FACTS, ("first", "owns")), case_of(FACTS, 6)], [5, ("late", "owns")])
        with self.assertRaises(InvalidCase) as caught:
            case_number(("first", "late"), ("late", "first"))
        self.assertEqual(caught.exception.index, 1)

    def test_conditions(self):
        condition = Condition(("late",), ("paid",))
        more = condition & Condition(("first",), ())
        told = [condition(("late", "owns")), condition(("late", "paid")), more.names, more.within(condition), len(more)]
        self.assertEqual(told, [True, False, ("first", "late", "paid"), True, 3])
        with self.assertRaises(InvalidCondition) as caught:
            Condition(("late",), ("late", "paid"))
        self.assertEqual((caught.exception.part, caught.exception.index), (1, 0))


class SecondStageTest(unittest.TestCase):
    def test_books(self):
        book = example_book()
        told = [book.names, book.rulings, len(book), book["fine"].depth, (book - "fine").names, "mild" in book]
        self.assertEqual(told, [["fine", "mild", "keep"], ["keep", "none", "pay", "warn"], 3, 2, ["keep"], True])
        with self.assertRaises(InvalidBook) as caught:
            Book(FACTS, (book["keep"], book["fine"], book["mild"]), "none")
        self.assertEqual((caught.exception.word, caught.exception.index), ("name", 3))
        told = [book(("first", "late")), book(("late", "owns")), book(("late", "owns", "paid")), book(())]
        self.assertEqual(told, ["warn", "pay", "keep", "none"])

    def test_ruling(self):
        book = example_book()
        told = [decider(book, ("first", "late")), way(book, ("first", "late"))]
        self.assertEqual(told, ["mild", ["fine", "mild"]])
        self.assertEqual(rules_looked_at(book, ("late", "owns", "paid")), ["fine", "keep"])

    def test_reasons(self):
        book = example_book()
        why = reason(book, ("late", "owns", "paid"))
        told = [why.holding, why.failing, turn(book, ("late",)), turn_to(book, ("late",), "keep")]
        self.assertEqual(told, [("owns", "paid"), (), (("first",), "warn"), ("late", "owns")])
        condition = Condition(("first", "late"), ("owns", "paid"))
        rest = core(book, ("first", "late"), condition)
        told = [is_reason(book, ("first", "late"), condition), rest.holding, rest.failing]
        self.assertEqual(told, [True, ("first", "late"), ("paid",)])

    def test_counting(self):
        book = example_book()
        told = [counts(book), decided_by(book, "mild"), decided_by(book, None), idle_rules(book)]
        self.assertEqual(told, [{"keep": 6, "none": 6, "pay": 2, "warn": 2}, 2, 6, []])
        told = [nth_case(book, "warn", 1), nth_case(book, "warn", 2), rank(book, ("first", "late", "owns"))]
        self.assertEqual(told, [("first", "late", "owns"), None, 1])
        self.assertEqual(list(cases(book, "pay", 0, 99)), [("late",), ("late", "owns")])
        told = [swing(book, "first"), idle_facts(book), share(book, "pay", {"late": (1, 4)})]
        self.assertEqual(told, [4, [], (1, 16)])



class ThirdStageTest(unittest.TestCase):
    def test_comparison(self):
        book = example_book()
        other = swapped(book, "fine")
        told = [other.names, first_unlike(book, other), unlike_count(book, other), clashes(book)]
        clash = ("fine", "keep", ("late", "owns"))
        self.assertEqual(told, [["keep", "fine", "mild"], ("late", "owns"), 2, [clash]])

    def test_shapes(self):
        book = example_book()
        more = Book(FACTS, book.rules + (rule("again", ("owns", "paid"), (), "keep"),), "none")
        late = under(book, Condition(("late",), ()))
        told = [flat(book).names, flat(book)["mild"].condition.names, lean(more).names, late.facts]
        self.assertEqual(told, [["mild", "fine", "keep"], ("first", "late", "paid"), ["fine", "mild", "keep"],
                                ("first", "owns", "paid")])
        self.assertEqual(late["fine"].condition.names, ("paid",))

    def test_hearings(self):
        hearing = Hearing(example_book())
        told = [hearing.tell("late", False), hearing.deciders(), hearing.open_count()]
        self.assertEqual(told, [["keep", "none"], ["keep", None], 8])
        self.assertEqual(hearing.possible_after("owns", True), ["keep"])
        told = [fewest_questions(hearing), next_question(hearing), best_guess(hearing), hearing.take_back()]
        self.assertEqual(told, [1, "owns", "keep", "late"])
        book = example_book()
        told = [hear(book, ("first", "late"), ["paid", "late", "first"]), hear(book, (), ["late"])]
        self.assertEqual(told, [("warn", 3), ("none", None)])


class FourthStageTest(unittest.TestCase):
    def test_amendments(self):
        book = statute_book()
        lost = rule("lost", ("paid",), (), "warn")
        told = [amended(book, ("strike", "mild")).names, amended(book, ("add", None, lost)).names]
        self.assertEqual(told, [["late"], ["late", "mild", "lost"]])
        self.assertEqual(amended(book, ("before", "mild", lost)).names, ["late", "lost", "mild"])
        with self.assertRaises(NoNeighbor):
            amended(book, ("swap", "late"))

    def test_statutes(self):
        statute = Statute(statute_book(), ((10, ("strike", "mild")), (20, ("ruling", "late", "warn"))))
        told = [statute(9).names, statute.days, stood(statute, "mild"), touched(statute, "late")]
        self.assertEqual(told, [["late", "mild"], [10, 20], [(0, 9)], [0, 1]])
        found = [(0, "warn", "mild"), (10, "fine", "late"), (20, "warn", "late")]
        self.assertEqual(rulings_by_day(statute, ("first", "late")), found)
        told = [first_turn_day(statute, ("late",), "warn"), count_days(statute, ("first", "late"), "warn", 0, 99)]
        self.assertEqual(told, [20, 90])
        self.assertEqual([restless(statute), undone_on(statute, 0)], [(("first", "late"), 2), None])
        with self.assertRaises(InvalidStatute) as caught:
            Statute(statute_book(), ((5, ("strike", "mild")), (5, ("swap", "late"))))
        self.assertEqual(caught.exception.index, 1)

    def test_seasons(self):
        seasons = Seasons(statute_book(), {"mild": (7, 5, 2)})
        self.assertEqual([seasons(4).names, seasons(5).names, seasons.period], [["late"], ["late", "mild"], 7])
        told = count_rulings(seasons, ("first", "late"), 10 ** 18)
        self.assertEqual(told, {"fine": 714285714285714286, "free": 0, "warn": 285714285714285714})
        self.assertEqual(always(seasons), {"fine": 1, "free": 6, "warn": 0})
        self.assertEqual(next_day(seasons, ("first", "late"), "warn", 10 ** 18), 1000000000000000004)

    def test_dockets(self):
        book = statute_book()
        free = Book(book.facts, (), "free")
        entries = (("ann", ("late",), (), 0), ("bob", ("late",), (("ann", "fine", "first"),), 0))
        docket = Docket((book, free), entries)
        told = [docket["bob"], looked_at(docket, "bob"), effect_of(docket, "ann", "free")]
        self.assertEqual(told, [("warn", "mild", ("first", "late")), ["ann"], ["bob"]])
        self.assertEqual(fewest_appeals(docket, "bob", "fine", 1), ["ann"])
        told = [without(docket, "ann")["bob"], retried(docket, "ann", ())["bob"]]
        self.assertEqual(told, [("fine", "late", ("late",)), ("fine", "late", ("late",))])
        with self.assertRaises(InvalidDocket) as caught:
            Docket((book,), (("ann", ("late",), (), 0), ("ann", (), (), 0)))
        self.assertEqual((caught.exception.part, caught.exception.index), ("entries", 1))


class FifthStageTest(unittest.TestCase):
    def test_live(self):
        court = LiveCourt(statute_book())
        told = [court.judge("ann", ("first", "late")), court.amend(("strike", "mild")), court.stale(), court.renew("ann")]
        self.assertEqual(told, ["warn", ["ann"], ["ann"], True])
        self.assertEqual([court.undo(), court.judged], [True, [("ann", ("first", "late"), "warn", "mild")]])
        with self.assertRaises(InvalidOperation) as caught:
            LiveCourt(statute_book()).apply_all([("renew", "ann"), ("judge", "ann")])
        self.assertEqual(caught.exception.index, 1)

    def test_watchers(self):
        watcher = ConditionWatcher(statute_book(), "mild")
        told = [len(watcher.candidates), watcher.see(("first", "late"), "warn"), watcher.see_decider(("late",), "late")]
        self.assertEqual(told, [19, 7, 3])
        told = [watcher.possible(("first",)), watcher.telling(), watcher.candidates[0].holding]
        self.assertEqual(told, [["free"], (), ("first",)])
        watcher = OrderWatcher(Book(("late",), (rule("all", (), (), "fine"), rule("late", ("late",), (), "warn")), "free"))
        told = [watcher.order_count, watcher.see(("late",), "warn"), watcher.first_order, watcher.sure("late", "all")]
        self.assertEqual(told, [2, 1, ("late", "all"), True])

    def test_learning(self):
        found = least_book(("late", "paid"), [(("late",), "fine"), (("late", "paid"), "free"), ((), "free")], 2)
        self.assertEqual([found.names, found["a"].condition.failing, found["b"].condition.holding], [["a", "b"], ("late",), ("paid",)])
        self.assertEqual([found.ruling, first_misfit(found, [((), "fine")])], ["fine", 0])


class SixthStageTest(unittest.TestCase):
    def test_notation(self):
        text = format_book(statute_book())
        self.assertEqual(text, "facts first late paid\nlate is fine if late not paid\n> mild is warn if first\nelse free")
        self.assertEqual(parse_book(text), statute_book())
        with self.assertRaises(InvalidText) as caught:
            parse_book("facts late\nlate is fine if paid\nelse free")
        self.assertEqual((caught.exception.row, caught.exception.word), (1, 4))

    def test_tables(self):
        book = statute_book()
        self.assertEqual(explained(book, ("first", "late")), "late: late, no paid\n  mild: first\nso warn")
        self.assertEqual(table(book, ("first", "late")).split("\n"), ["-- free", "+- free", "-+ fine", "++ warn"])

    def test_codec(self):
        values = encode_book(Book(("late",), (), "free"))
        self.assertEqual(values, [66, 1, 4, 12, 1, 20, 5, 0, 4, 6, 18, 5, 5, 9])
        self.assertEqual(decode_book(values).ruling, "free")
        with self.assertRaises(DecodeError) as caught:
            decode_book([66, 0])
        self.assertEqual(caught.exception.offset, 1)

    def test_daybooks(self):
        book = "facts first late paid\nlate is fine if late not paid\n> mild is warn if first\nelse free\n"
        daybook = Daybook(book + "court\njudge ann first late\nstrike mild\nrenew ann\nlook ann fine")
        self.assertEqual(daybook.results, "warn\nann\nyes")
        self.assertEqual(daybook.finish().judged, [("ann", ("first", "late"), "fine", "late")])
        self.assertEqual(len(daybook.finish().history), 3)
        with self.assertRaises(DaybookError) as caught:
            Daybook("facts late\nelse free\ncourt\njudge")
        self.assertEqual((caught.exception.row, caught.exception.word), (3, 1))


if __name__ == "__main__":
    unittest.main()
