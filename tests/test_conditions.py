import unittest
from itertools import product

from smallcourt.conditions import Condition
from smallcourt.errors import InvalidCondition, NeverMet
from tests.helpers import NOT_NAMES, all_cases, holds_for

EIGHT = tuple("abcdefgh")


def small_conditions():
    """All conditions over three facts."""
    found = []
    for signs in product((0, 1, 2), repeat=3):
        holding = tuple(name for name, sign in zip("abc", signs) if sign == 1)
        found.append(Condition(holding, tuple(name for name, sign in zip("abc", signs) if sign == 2)))
    return found


class MakingTest(unittest.TestCase):
    def assert_wrong(self, holding, failing, part, index):
        with self.assertRaises(InvalidCondition) as caught:
            Condition(holding, failing)
        self.assertEqual((caught.exception.part, caught.exception.index), (part, index))

    def test_properties(self):
        condition = Condition(("b", "d"), ("a", "c"))
        self.assertEqual(condition.holding, ("b", "d"))
        self.assertEqual(condition.failing, ("a", "c"))
        self.assertEqual(condition.names, ("a", "b", "c", "d"))
        self.assertEqual(len(condition), 4)

    def test_empty(self):
        condition = Condition((), ())
        self.assertEqual((condition.holding, condition.failing, condition.names, len(condition)), ((), (), (), 0))

    def test_no_names(self):
        for wrong in NOT_NAMES:
            self.assert_wrong((wrong,), (), 0, 0)
            self.assert_wrong(("a", "b", wrong), (), 0, 2)
            self.assert_wrong((), (wrong,), 1, 0)
            self.assert_wrong(("x",), ("a", wrong, "c"), 1, 1)

    def test_rising(self):
        self.assert_wrong(("b", "a"), (), 0, 1)
        self.assert_wrong(("a", "b", "b"), (), 0, 2)
        self.assert_wrong((), ("b", "a"), 1, 1)
        self.assert_wrong(("x",), ("a", "a"), 1, 1)

    def test_eight_names_and_nine(self):
        for size in range(9):
            self.assertEqual(len(Condition(EIGHT[:size], EIGHT[size:])), 8)
        self.assert_wrong(EIGHT + ("i",), (), 0, 8)
        self.assert_wrong(EIGHT + ("i", "j"), (), 0, 8)
        self.assert_wrong(EIGHT, ("i",), 1, 0)
        self.assert_wrong(EIGHT[:5], ("i", "j", "k", "l", "m"), 1, 3)
        self.assert_wrong((), EIGHT + ("i",), 1, 8)
        self.assert_wrong(EIGHT[:5], ("i", "h", "k", "l", "m"), 1, 1)

    def test_in_both(self):
        self.assert_wrong(("late",), ("late", "paid"), 1, 0)
        self.assert_wrong(("a", "c"), ("b", "c"), 1, 1)

    def test_first_part_ahead(self):
        self.assert_wrong(("b", "a"), (None,), 0, 1)
        self.assert_wrong(EIGHT + ("i",), ("a",), 0, 8)

    def test_properties_cannot_be_set(self):
        condition = Condition(("a",), ())
        for name in ("holding", "failing", "names"):
            with self.assertRaises(AttributeError):
                setattr(condition, name, ("b",))


class MeetingTest(unittest.TestCase):
    def test_all_small_cases(self):
        for condition in small_conditions():
            for case in all_cases(("a", "b", "c", "d")):
                self.assertIs(condition(case), holds_for(condition, case))

    def test_any_names(self):
        condition = Condition(("b",), ("c",))
        self.assertIs(condition(("z", "b", "a")), True)
        self.assertIs(condition(("c", "b", "a")), False)
        self.assertIs(condition(("z", "b", "b")), True)
        self.assertIs(condition(("x", "y")), False)
        self.assertIs(Condition((), ())(("x",)), True)


class JoiningTest(unittest.TestCase):
    def test_all_small_conditions(self):
        cases = all_cases(("a", "b", "c"))
        for condition, other in product(small_conditions(), repeat=2):
            before = (condition.holding, condition.failing, other.holding, other.failing)
            both = [case for case in cases if condition(case) and other(case)]
            if both:
                joined = condition & other
                self.assertEqual([case for case in cases if joined(case)], both)
                self.assertEqual(joined.names, tuple(sorted(set(condition.names) | set(other.names))))
            else:
                with self.assertRaises(NeverMet):
                    condition & other
            self.assertEqual(before, (condition.holding, condition.failing, other.holding, other.failing))

    def test_nine_names(self):
        with self.assertRaises(InvalidCondition) as caught:
            Condition(EIGHT[:5], ("i",)) & Condition(("j", "k"), ("l",))
        self.assertEqual((caught.exception.part, caught.exception.index), (1, 1))
        with self.assertRaises(InvalidCondition) as caught:
            Condition(EIGHT, ()) & Condition(("aa",), ())
        self.assertEqual((caught.exception.part, caught.exception.index), (0, 8))

    def test_names_that_both_have_count_once(self):
        condition = Condition(EIGHT[:4], EIGHT[4:])
        self.assertEqual(condition & condition, condition)
        self.assertEqual(len(condition & Condition(("a", "b"), ("h",))), 8)

    def test_never_met_ahead(self):
        with self.assertRaises(NeverMet):
            Condition(EIGHT, ()) & Condition(("i",), ("a",))
        with self.assertRaises(NeverMet):
            Condition((), EIGHT) & Condition(("h", "i"), ())


class WithinTest(unittest.TestCase):
    def test_all_small_conditions(self):
        cases = all_cases(("a", "b", "c"))
        for condition, other in product(small_conditions(), repeat=2):
            expected = all(other(case) for case in cases if condition(case))
            self.assertIs(condition.within(other), expected)

    def test_equal_and_empty(self):
        condition = Condition(("a",), ("b",))
        empty = Condition((), ())
        self.assertIs(condition.within(condition), True)
        self.assertIs(condition.within(Condition(("a",), ("b",))), True)
        self.assertIs(condition.within(empty), True)
        self.assertIs(empty.within(condition), False)
        self.assertIs(empty.within(empty), True)
        self.assertIs(Condition((), ("x",)).within(Condition((), ("y",))), False)


class EqualityTest(unittest.TestCase):
    def test_conditions(self):
        for first, second in product(small_conditions(), small_conditions()):
            same = (first.holding, first.failing) == (second.holding, second.failing)
            self.assertIs(first == second, same)
            self.assertIs(first != second, not same)

    def test_other_things(self):
        condition = Condition(("a",), ("b",))
        for other in (*NOT_NAMES, "a", (("a",), ("b",)), condition.holding):
            self.assertIs(condition == other, False)
            self.assertIs(condition != other, True)
            self.assertIs(other == condition, False)


if __name__ == "__main__":
    unittest.main()
