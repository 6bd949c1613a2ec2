import unittest

from smallcourt.books import Book
from smallcourt.conditions import Condition
from smallcourt.errors import (
    CourtError, InvalidAmendment, InvalidBook, InvalidCase, InvalidLabel, InvalidOperation, NoNeighbor, UnknownLabel,
    UnknownRule,
)
from smallcourt.live import LiveCourt, Trial
from tests.courts import LABELS, OperationMaker, PlainCourt, Refused, court_behind, do, state_of
from tests.helpers import NOT_NAMES
from tests.makers import rule, small_books, statute_book

ALL_WORDS = ("amend", "amend", "judge", "judge", "judge", "renew", "drop", "undo", "undo", "redo", "redo")
SOME = [("judge", "ann", ("first", "late")), ("amend", ("strike", "mild")), ("renew", "ann")]


def example_court():
    """A court in which `ann` is judged and stale, with two operations in effect and three that were undone."""
    court = court_behind(statute_book(), SOME + [("judge", "bob", ()), ("drop", "ann")])
    court.undo()
    court.undo()
    court.undo()
    court.redo()
    court.undo()
    return court


def way_of(court):
    """The states to which `undo` and `redo` lead, from the first to the last, and the place of the present one."""
    place = 0
    while court.undo():
        place += 1
    states = [state_of(court)]
    while court.redo():
        states.append(state_of(court))
    for _ in states[place + 1:]:
        court.undo()
    return states, place


class LiveTest(unittest.TestCase):
    def assert_plays(self, court, plain, operation):
        """Plays an operation in both courts; tells whether it was refused."""
        try:
            result = plain.play(operation)
        except Refused as refused:
            with self.assertRaises(CourtError) as caught:
                do(court, operation)
            self.assertIs(type(caught.exception), refused.kind)
            self.assertEqual(state_of(court), plain.state())
            return True
        told = do(court, operation)
        self.assertEqual((told, type(told)), (result, type(result)))
        self.assertEqual(state_of(court), plain.state())
        return False

    def assert_refused(self, kind, call):
        """What is refused changes nothing, also of what can be undone and redone."""
        court = example_court()
        before = state_of(court)
        with self.assertRaises(kind) as caught:
            call(court)
        self.assertIs(type(caught.exception), kind)
        self.assertEqual(state_of(court), before)
        self.assertEqual([court.redo(), court.redo(), court.redo(), court.redo()], [True, True, True, False])
        self.assertEqual(len(court.history), 5)
        self.assertEqual([court.undo() for _ in range(6)], [True] * 5 + [False])
        return caught.exception


class OperationsTest(LiveTest):
    def test_new_courts(self):
        book = statute_book()
        court = LiveCourt(book)
        self.assertEqual(state_of(court), (book, [], [], []))

    def test_drawn_rows_of_operations(self):
        maker = OperationMaker(301)
        refused = changed = 0
        for book in small_books(302, 60):
            court, plain = LiveCourt(book), PlainCourt(book)
            self.assertEqual(state_of(court), plain.state())
            for _ in range(30):
                operation = maker.operation(plain.row[-1][1])
                refused += self.assert_plays(court, plain, operation)
                changed += len(court.stale())
        self.assertGreater(refused, 300)
        self.assertGreater(changed, 100)

    def test_amendments_that_change_a_ruling(self):
        court = court_behind(statute_book(), [("judge", "ann", ("first", "late")), ("judge", "bob", ("late",)),
                                              ("judge", "cid", ()), ("judge", "dan", ("first", "late"))])
        self.assertEqual(court.amend(("ruling", "mild", "free")), ["ann", "dan"])
        self.assertEqual(court.stale(), ["ann", "dan"])
        self.assertEqual(court.judged[0], ("ann", ("first", "late"), "warn", "mild"))
        # Compared with the book directly before, not with what was judged.
        self.assertEqual(court.amend(("ruling", "mild", "warn")), ["ann", "dan"])
        self.assertEqual(court.stale(), [])
        self.assertEqual(court.amend(("ruling", "mild", "warn")), [])

    def test_amendments_that_change_the_decider_only(self):
        court = court_behind(statute_book(), [("judge", "ann", ("late",))])
        self.assertEqual(court.amend(("before", "late", rule("new", ("late",), (), "fine"))), [])
        self.assertEqual(court.stale(), [])
        self.assertEqual(court.judged, [("ann", ("late",), "fine", "late")])
        self.assertIs(court.renew("ann"), False)
        self.assertEqual(court.judged, [("ann", ("late",), "fine", "new")])

    def test_operations_that_change_nothing(self):
        book = statute_book()
        court = court_behind(book, [("judge", "ann", ("late",)), ("judge", "bob", ())])
        before = court.judged
        self.assertIs(court.renew("bob"), False)
        self.assertEqual(court.amend(("ruling", "late", "fine")), [])
        self.assertEqual((court.book, court.judged), (book, before))
        self.assertEqual(court.history[2:], [("renew", "bob"), ("amend", ("ruling", "late", "fine"))])

    def test_renew(self):
        court = court_behind(statute_book(), SOME[:1] + [("judge", "bob", ())] + SOME[1:2])
        self.assertIs(court.renew("ann"), True)
        self.assertEqual(court.judged, [("ann", ("first", "late"), "fine", "late"), ("bob", (), "free", None)])
        self.assertIs(court.renew("ann"), False)
        self.assertEqual(court.stale(), [])

    def test_drop_and_judge_anew(self):
        court = court_behind(statute_book(), [("judge", label, ("late",)) for label in LABELS])
        self.assertEqual(court.drop("bob"), "fine")
        self.assertEqual([one[0] for one in court.judged], ["ann", "cid", "dan", "eve"])
        court.amend(("ruling", "late", "more"))
        self.assertEqual(court.drop("eve"), "fine")
        self.assertEqual(court.judge("bob", ("late",)), "more")
        self.assertIs(court.renew("cid"), True)
        self.assertEqual([one[0] for one in court.judged], ["ann", "cid", "dan", "bob"])
        self.assertEqual([one[2] for one in court.judged], ["fine", "more", "fine", "more"])

    def test_history(self):
        new = rule("new", ("late",), (), "x")
        operations = [("judge", "ann", ()), ("amend", ("add", None, new)), ("renew", "ann"), ("drop", "ann")]
        self.assertEqual(court_behind(statute_book(), operations).history, operations)
        for operation in court_behind(statute_book(), operations).history:
            self.assertIs(type(operation), tuple)

    def test_lists_are_new_for_each_reading(self):
        court = example_court()
        before = state_of(court)
        for read in (lambda: court.judged, lambda: court.history, court.stale,
                     lambda: court.apply_all([("amend", ("strike", "late")), ("undo",)])):
            read().clear()
            read().append("zoo")
        self.assertEqual(state_of(court), before)
        told = court.amend(("ruling", "late", "more"))
        told.append("zoo")
        court.undo()
        self.assertEqual(state_of(court), before)


class RefusedTest(LiveTest):
    def test_amendments(self):
        self.assert_refused(InvalidAmendment, lambda court: court.amend(("strike", None)))
        self.assert_refused(UnknownRule, lambda court: court.amend(("strike", "zoo")))
        self.assert_refused(NoNeighbor, lambda court: court.amend(("swap", "late")))
        error = self.assert_refused(InvalidBook, lambda court: court.amend(("add", None, rule("late"))))
        self.assertEqual((error.word, error.index), ("name", 1))
        error = self.assert_refused(InvalidBook, lambda court: court.amend(("condition", "late", Condition(("zoo",), ()))))
        self.assertEqual((error.word, error.index), ("condition", 0))
        for wrong in (*NOT_NAMES, "strike", ("strike",), ["strike", "mild"], ("undo",), ("judge", "ann", ())):
            self.assert_refused(InvalidAmendment, lambda court: court.amend(wrong))

    def test_labels_of_judge(self):
        for wrong in (*NOT_NAMES, "ann"):
            self.assert_refused(InvalidLabel, lambda court: court.judge(wrong, ()))
            self.assert_refused(InvalidLabel, lambda court: court.judge(wrong, ("zoo",)))

    def test_cases_of_judge(self):
        for case, index in ((("zoo",), 0), (("late", "first"), 1), (("late", "late"), 1), (("first", None), 1)):
            error = self.assert_refused(InvalidCase, lambda court: court.judge("cid", case))
            self.assertEqual(error.index, index)
        for wrong in NOT_NAMES:
            error = self.assert_refused(InvalidCase, lambda court: court.judge("cid", ("first", "late", wrong)))
            self.assertEqual(error.index, 2)

    def test_labels_of_renew_and_drop(self):
        for wrong in (*NOT_NAMES, "zoo", "bob", "cid", "late", ("ann", ("first", "late"), "warn", "mild")):
            self.assert_refused(UnknownLabel, lambda court: court.renew(wrong))
            self.assert_refused(UnknownLabel, lambda court: court.drop(wrong))


class UndoTest(LiveTest):
    def test_nothing_to_undo_or_redo(self):
        court = LiveCourt(statute_book())
        self.assertIs(court.undo(), False)
        self.assertIs(court.redo(), False)
        court.judge("ann", ())
        self.assertIs(court.redo(), False)
        self.assertIs(court.undo(), True)
        self.assertIs(court.undo(), False)
        self.assertIs(court.redo(), True)
        self.assertIs(court.redo(), False)
        self.assertEqual(court.judged, [("ann", (), "free", None)])

    def test_between_operations_of_each_kind(self):
        maker = OperationMaker(303)
        truths = []
        for book in small_books(304, 60):
            court, plain = LiveCourt(book), PlainCourt(book)
            for _ in range(40):
                operation = maker.operation(plain.row[-1][1], ALL_WORDS)
                self.assert_plays(court, plain, operation)
                if operation[0] in ("undo", "redo"):
                    truths.append((operation[0], plain.undone == []))
        self.assertEqual(len(set(truths)), 4)

    def test_no_redo_behind_a_new_operation(self):
        for operation in (("judge", "eve", ()), ("amend", ("strike", "late")), ("renew", "ann"), ("drop", "ann"),
                          ("amend", ("ruling", "late", "fine"))):
            court = example_court()
            do(court, operation)
            self.assertIs(court.redo(), False)
            self.assertEqual(court.history, SOME[:2] + [operation])
            self.assertIs(court.undo(), True)
            self.assertEqual(court.history, SOME[:2])
            self.assertIs(court.redo(), True)
            self.assertEqual(court.history, SOME[:2] + [operation])

    def test_a_hundred_operations(self):
        maker = OperationMaker(305)
        for book in small_books(306, 5):
            operations, plain = maker.row(book, 100, ("amend", "judge", "judge", "renew", "drop"))
            court = LiveCourt(book)
            states = [state_of(court)]
            for operation in operations:
                do(court, operation)
                states.append(state_of(court))
            self.assertEqual(states[-1], plain.state())
            for place in range(99, -1, -1):
                self.assertIs(court.undo(), True)
                self.assertEqual(state_of(court), states[place])
            self.assertIs(court.undo(), False)
            self.assertEqual(state_of(court), states[0])
            for place in range(1, 101):
                self.assertIs(court.redo(), True)
                self.assertEqual(state_of(court), states[place])
            self.assertIs(court.redo(), False)


class ApplyAllTest(LiveTest):
    def test_results(self):
        maker = OperationMaker(307)
        for book in small_books(308, 40):
            operations, plain = maker.row(book, 25, ALL_WORDS)
            other = PlainCourt(book)
            expected = [other.play(operation) for operation in operations]
            court = LiveCourt(book)
            given = list(operations)
            told = court.apply_all(operations)
            self.assertEqual(told, expected)
            self.assertEqual([type(one) for one in told], [type(one) for one in expected])
            self.assertEqual(state_of(court), plain.state())
            self.assertEqual(operations, given)
            for _ in range(30):
                self.assertIs(court.undo(), plain.play(("undo",)))
                self.assertEqual(state_of(court), plain.state())
            for _ in range(30):
                self.assertIs(court.redo(), plain.play(("redo",)))
                self.assertEqual(state_of(court), plain.state())

    def test_no_operations(self):
        court = example_court()
        before = state_of(court)
        self.assertEqual(court.apply_all([]), [])
        self.assertEqual(state_of(court), before)
        self.assertIs(court.redo(), True)

    def test_undo_and_redo_alone(self):
        court = example_court()
        self.assertEqual(court.apply_all([("redo",), ("undo",), ("undo",), ("undo",), ("undo",)]), [True, True, True, True, False])
        self.assertEqual(court.history, [])
        self.assertEqual(court.apply_all([("redo",)] * 6), [True] * 5 + [False])

    def test_invalid_operations(self):
        right = ("judge", "cid", ())
        wrongs = (
            *NOT_NAMES, [], ["undo"], "undo", ("stale",), ("apply_all", []), ("tried", [], True), ("replay", None, []),
            ("history",), ("judged",), ("book",), ("zoo",), ("zoo", "ann"), (None,), (["undo"],), (("undo",),), (1,), (True, "ann"),
            ("undo", 1), ("redo", None), ("undo", ()), ("amend",), ("amend", ("strike", "late"), 1), ("judge",), ("judge", "cid"),
            ("judge", "cid", (), 1), ("renew",), ("renew", "ann", ()), ("drop",), ("drop", "ann", "ann"), ("Undo",), ("undo ",),
            ["judge", "cid", ()], ("_go_on", None, None, ()), ("__init__", statute_book()), ("keep",),
        )
        for wrong in wrongs:
            for place in range(3):
                operations = [right, ("undo",)][:place] + [wrong] + [("undo",), None, ("renew", "zoo")]
                error = self.assert_refused(InvalidOperation, lambda court: court.apply_all(operations))
                self.assertEqual(error.index, place)

    def test_invalid_operations_ahead_of_everything_else(self):
        for first in (("judge", None, None), ("amend", None), ("renew", "zoo"), ("drop", ["ann"])):
            error = self.assert_refused(InvalidOperation, lambda court: court.apply_all([first, first, ("zoo",), None]))
            self.assertEqual(error.index, 2)

    def test_an_error_in_the_middle(self):
        wrongs = ((InvalidLabel, ("judge", "eve", ())), (InvalidLabel, ("judge", 0, ())), (InvalidCase, ("judge", "dan", ("zoo",))),
                  (UnknownLabel, ("renew", "zoo")), (UnknownLabel, ("drop", None)), (UnknownRule, ("amend", ("strike", "zoo"))),
                  (InvalidAmendment, ("amend", "strike")), (NoNeighbor, ("amend", ("swap", "late"))),
                  (InvalidBook, ("amend", ("add", None, rule("late")))))
        for kind, wrong in wrongs:
            for before in ([], [("undo",), ("undo",)], [("redo",), ("redo",)], [("drop", "ann"), ("amend", ("ruling", "late", "x"))]):
                operations = before + [("judge", "eve", ()), wrong, ("undo",)]
                self.assert_refused(kind, lambda court: court.apply_all(operations))
                self.assert_refused(kind, lambda court: court.tried(operations, True))
                self.assert_refused(kind, lambda court: court.tried(operations, False))


class ReplayTest(LiveTest):
    def test_histories(self):
        maker = OperationMaker(309)
        for book in small_books(310, 40):
            operations, plain = maker.row(book, 25, ALL_WORDS)
            court = court_behind(book, operations)
            again = LiveCourt.replay(book, court.history)
            self.assertIs(type(again), LiveCourt)
            self.assertEqual(state_of(again), state_of(court))
            self.assertIs(again.redo(), False)
            self.assertEqual(state_of(LiveCourt.replay(book, operations)), plain.state())

    def test_courts_of_their_own(self):
        operations = list(SOME)
        court = LiveCourt.replay(statute_book(), operations)
        other = LiveCourt.replay(statute_book(), operations)
        before = state_of(other)
        court.drop("ann")
        operations.clear()
        self.assertEqual(state_of(other), before)
        self.assertEqual(len(court.history), 4)

    def test_errors(self):
        book = statute_book()
        with self.assertRaises(InvalidOperation) as caught:
            LiveCourt.replay(book, [("renew", "ann"), ("undo",), ("replay", book, [])])
        self.assertEqual(caught.exception.index, 2)
        with self.assertRaises(UnknownLabel):
            LiveCourt.replay(book, [("undo",), ("renew", "ann")])
        with self.assertRaises(InvalidCase):
            LiveCourt.replay(book, [("judge", "ann", ("zoo",))])


class TrialTest(LiveTest):
    def test_blocks_that_do_not_keep(self):
        court = example_court()
        before = state_of(court)
        with Trial(court) as trial:
            self.assertIsInstance(trial, Trial)
            court.apply_all([("redo",), ("drop", "ann"), ("amend", ("strike", "late"))])
            self.assertEqual(len(court.history), 5)
        self.assertEqual(state_of(court), before)
        self.assertEqual([court.redo() for _ in range(4)], [True, True, True, False])
        self.assertEqual(court.history[2:], [("renew", "ann"), ("judge", "bob", ()), ("drop", "ann")])

    def test_blocks_that_keep(self):
        for early in (True, False):
            court = example_court()
            with Trial(court) as trial:
                if early:
                    self.assertIsNone(trial.keep())
                court.judge("cid", ())
                if not early:
                    trial.keep()
            self.assertEqual(court.history, SOME[:2] + [("judge", "cid", ())])
            self.assertIs(court.redo(), False)
            self.assertEqual([court.undo() for _ in range(4)], [True, True, True, False])

    def test_blocks_that_undo_more_than_was_done_in_them(self):
        court = example_court()
        before = state_of(court)
        with Trial(court):
            self.assertEqual([court.undo() for _ in range(3)], [True, True, False])
            court.judge("eve", ("late",))
        self.assertEqual(state_of(court), before)
        self.assertEqual([court.redo() for _ in range(4)], [True, True, True, False])

    def test_errors_that_leave_the_block(self):
        court = example_court()
        before = state_of(court)
        with self.assertRaises(UnknownLabel):
            with Trial(court):
                court.judge("eve", ())
                court.renew("zoo")
        self.assertEqual(state_of(court), before)
        with self.assertRaises(KeyError):
            with Trial(court):
                court.undo()
                raise KeyError("zoo")
        self.assertEqual(state_of(court), before)
        self.assertEqual([court.redo() for _ in range(4)], [True, True, True, False])
        with self.assertRaises(UnknownLabel):
            with Trial(court) as trial:
                court.undo()
                trial.keep()
                court.renew("zoo")
        self.assertEqual(len(court.history), 4)

    def test_trials_within_trials(self):
        for outer in (True, False):
            for inner in (True, False):
                court = example_court()
                before = court.history
                with Trial(court) as trial:
                    court.judge("cid", ())
                    with Trial(court) as other:
                        court.judge("dan", ("late",))
                        if inner:
                            other.keep()
                    self.assertEqual(len(court.history), len(before) + 1 + inner)
                    court.judge("eve", ())
                    if outer:
                        trial.keep()
                added = [("judge", "cid", ())] + [("judge", "dan", ("late",))] * inner + [("judge", "eve", ())]
                self.assertEqual(court.history, before + added * outer)
                self.assertIs(court.redo(), not outer)

    def test_undo_and_redo_behind_blocks(self):
        inside = [("undo",), ("judge", "eve", ("late",)), ("renew", "ann"), ("undo",)]
        for kept, broken in ((False, False), (True, False), (False, True), (True, True)):
            court, other = example_court(), example_court()
            states, place = way_of(court)
            self.assertEqual([len(states), place], [6, 2])
            try:
                with Trial(court) as trial:
                    for operation in inside:
                        do(court, operation)
                    if kept:
                        trial.keep()
                    if broken:
                        court.drop("zoo")
            except UnknownLabel:
                self.assertTrue(broken)
            if kept:
                for operation in inside:
                    do(other, operation)
                self.assertNotEqual(way_of(other), (states, place))
            self.assertEqual(way_of(court), way_of(other))
            self.assertEqual(way_of(court) == (states, place), not kept)

    def test_a_second_block_begins_with_nothing_kept(self):
        for broken in (True, False):
            court = example_court()
            trial = Trial(court)
            trial.keep()
            before = way_of(court)
            with trial:
                court.judge("dan", ())
            self.assertEqual(way_of(court), before)
            with trial:
                court.judge("eve", ())
                trial.keep()
            trial.keep()
            kept = way_of(court)
            self.assertEqual([len(kept[0]), kept[1]], [4, 3])
            try:
                with trial:
                    court.undo()
                    court.drop("zoo" if broken else "ann")
            except UnknownLabel:
                self.assertTrue(broken)
            self.assertEqual(way_of(court), kept)

    def test_a_trial_begins_with_its_block(self):
        court = example_court()
        trial = Trial(court)
        court.judge("cid", ())
        with trial:
            court.judge("dan", ())
        self.assertEqual([one[0] for one in court.judged], ["ann", "cid"])
        with trial:
            trial.keep()
            court.judge("dan", ())
        with trial:
            court.judge("eve", ())
        self.assertEqual([one[0] for one in court.judged], ["ann", "cid", "dan"])

    def test_drawn_blocks(self):
        maker = OperationMaker(311)
        for book in small_books(312, 30):
            operations, _ = maker.row(book, 15, ALL_WORDS)
            for keep in (True, False):
                court = court_behind(book, operations[:8])
                plain = PlainCourt(book)
                for operation in operations if keep else operations[:8]:
                    plain.play(operation)
                with Trial(court) as trial:
                    for operation in operations[8:]:
                        do(court, operation)
                    if keep:
                        trial.keep()
                for word in ["redo"] * 8 + ["undo"] * 16 + ["redo"] * 16:
                    self.assertEqual(state_of(court), plain.state())
                    self.assertIs(do(court, (word,)), plain.play((word,)))


class TriedTest(LiveTest):
    def test_kept_and_not_kept(self):
        maker = OperationMaker(313)
        for book in small_books(314, 40):
            operations, _ = maker.row(book, 20, ALL_WORDS)
            plain = PlainCourt(book)
            for operation in operations[:10]:
                plain.play(operation)
            court = court_behind(book, operations[:10])
            before = plain.state()
            given = list(operations[10:])
            other = PlainCourt(book)
            for operation in operations[:10]:
                other.play(operation)
            expected = [other.play(operation) for operation in given]
            self.assertEqual(court.tried(given, False), expected)
            self.assertEqual(given, operations[10:])
            self.assertEqual(state_of(court), before)
            self.assertEqual(court.tried(given, False), expected)
            self.assertEqual(court.tried(given, True), expected)
            self.assertEqual(state_of(court), other.state())
            for word in ["redo"] * 10 + ["undo"] * 20 + ["redo"] * 20:
                self.assertIs(do(court, (word,)), other.play((word,)))
                self.assertEqual(state_of(court), other.state())

    def test_undo_and_redo_behind_what_is_not_kept(self):
        court = example_court()
        self.assertEqual(court.tried([("undo",), ("judge", "eve", ())], False), [True, "free"])
        self.assertEqual([court.redo() for _ in range(4)], [True, True, True, False])

    def test_errors(self):
        for keep in (True, False):
            error = self.assert_refused(InvalidOperation, lambda court: court.tried([("undo",), ("tried", [], True)], keep))
            self.assertEqual(error.index, 1)
            self.assert_refused(UnknownLabel, lambda court: court.tried([("undo",), ("renew", "zoo")], keep))


class HandedInTest(unittest.TestCase):
    def test_the_book_stays_as_it_was(self):
        book = statute_book()
        court = LiveCourt(book)
        court.apply_all(SOME)
        self.assertEqual(book, statute_book())
        self.assertNotEqual(court.book, book)
        self.assertEqual(court.book, Book(book.facts, (rule("late", ("late",), ("paid",), "fine"),), "free"))


if __name__ == "__main__":
    unittest.main()
