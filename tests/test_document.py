"""The examples of the document's interface."""

import unittest

from smallcourt.conditions import Condition
from smallcourt.errors import InvalidCase, InvalidCondition
from smallcourt.facts import case_number, case_of
from tests.helpers import FACTS


class FirstStageTest(unittest.TestCase):
    def test_facts(self):
        self.assertEqual([case_number(FACTS, ("first", "owns")), case_of(FACTS, 6)], [5, ("late", "owns")])
        with self.assertRaises(InvalidCase) as caught:
            case_number(("first", "late"), ("late", "first"))
        self.assertEqual(caught.exception.index, 1)

    def test_conditions(self):
        condition = Condition(("late",), ("paid",))
        more = condition & Condition(("first",), ())
        told = [condition(("late", "owns")), condition(("late", "paid")), more.names, more.within(condition), len(more)]
        self.assertEqual(told, [True, False, ("first", "late", "paid"), True, 3])
        with self.assertRaises(InvalidCondition) as caught:
            Condition(("late",), ("late", "paid"))
        self.assertEqual((caught.exception.part, caught.exception.index), (1, 0))


if __name__ == "__main__":
    unittest.main()
