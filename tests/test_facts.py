import random
import unittest

from smallcourt.errors import InvalidCase, InvalidFacts, InvalidNumber
from smallcourt.facts import case_number, case_of
from tests.helpers import FACTS, NOT_NAMES, all_cases, many_facts


class FactsTest(unittest.TestCase):
    def assert_wrong_facts(self, facts, index):
        for call in (lambda: case_number(facts, ()), lambda: case_of(facts, 0)):
            with self.assertRaises(InvalidFacts) as caught:
                call()
            self.assertEqual(caught.exception.index, index, facts)

    def test_lengths_of_names(self):
        self.assertEqual(case_of(("a", "abcdefgh", "z"), 7), ("a", "abcdefgh", "z"))
        self.assert_wrong_facts(("",), 0)
        self.assert_wrong_facts(("a", "abcdefghi"), 1)

    def test_all_letters(self):
        letters = tuple("abcdefghijklmnopqrstuvwxyz")
        self.assertEqual(case_number(letters, letters), 2 ** 26 - 1)

    def test_things_that_are_no_names(self):
        for wrong in NOT_NAMES:
            self.assert_wrong_facts((wrong,), 0)
            self.assert_wrong_facts(("late", wrong), 1)
            self.assert_wrong_facts(("first", wrong, "late"), 1)

    def test_no_facts_one_sixty_and_sixty_one(self):
        self.assert_wrong_facts((), 0)
        self.assertEqual(case_of(("a",), 1), ("a",))
        self.assertEqual(case_number(many_facts(60), many_facts(60)), 2 ** 60 - 1)
        self.assert_wrong_facts(many_facts(61), 60)
        self.assert_wrong_facts(many_facts(63), 60)
        self.assert_wrong_facts(many_facts(60) + (None,), 60)
        self.assert_wrong_facts(many_facts(30) + ("no!",) + many_facts(61)[30:], 30)

    def test_facts_rise(self):
        self.assert_wrong_facts(("late", "first"), 1)
        self.assert_wrong_facts(("a", "b", "b", "c"), 2)
        self.assert_wrong_facts(("ab", "a"), 1)
        self.assert_wrong_facts(("a", "c", "b", 1), 2)


class CasesTest(unittest.TestCase):
    def assert_wrong_case(self, case, index):
        with self.assertRaises(InvalidCase) as caught:
            case_number(FACTS, case)
        self.assertEqual(caught.exception.index, index, case)

    def test_order_of_cases(self):
        for number, case in enumerate(all_cases(FACTS)):
            self.assertEqual(case_number(FACTS, case), number)
            self.assertEqual(case_of(FACTS, number), case)

    def test_empty_and_full(self):
        self.assertEqual(case_number(FACTS, ()), 0)
        self.assertEqual(case_number(FACTS, FACTS), 15)

    def test_wrong_cases(self):
        self.assert_wrong_case(("other",), 0)
        self.assert_wrong_case(("first", "later"), 1)
        self.assert_wrong_case(("late", "first"), 1)
        self.assert_wrong_case(("first", "late", "late"), 2)
        self.assert_wrong_case(("first", "paid", "owns", "other"), 2)

    def test_things_in_cases_that_are_no_names(self):
        for wrong in NOT_NAMES:
            self.assert_wrong_case((wrong,), 0)
            self.assert_wrong_case(("first", "late", wrong, "paid"), 2)

    def test_numbers(self):
        self.assertEqual(case_of(FACTS, 0), ())
        self.assertEqual(case_of(FACTS, 15), FACTS)
        for wrong in (-1, 16, 2 ** 60, True, False, None, "1", 1.0, (), [], (1,), -2 ** 70):
            with self.assertRaises(InvalidNumber):
                case_of(FACTS, wrong)

    def test_facts_ahead_of_the_rest(self):
        for call in (lambda: case_number(("b", "a"), ("c",)), lambda: case_of(("b", "a"), None)):
            with self.assertRaises(InvalidFacts) as caught:
                call()
            self.assertEqual(caught.exception.index, 1)

    def test_sixty_facts(self):
        facts = many_facts(60)
        maker = random.Random(5)
        for number in [0, 1, 2 ** 59, 2 ** 60 - 1] + [maker.randrange(2 ** 60) for _ in range(50)]:
            case = case_of(facts, number)
            self.assertEqual(number, sum(2 ** facts.index(name) for name in case))
            self.assertEqual(case_number(facts, case), number)
        with self.assertRaises(InvalidNumber):
            case_of(facts, 2 ** 60)


if __name__ == "__main__":
    unittest.main()
