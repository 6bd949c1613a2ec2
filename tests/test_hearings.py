import unittest

from smallcourt.books import Book
from smallcourt.errors import AlreadyKnown, InvalidCase, TooMany, UnknownFact
from smallcourt.hearings import Hearing, best_guess, fewest_questions, hear, next_question
from tests.helpers import FACTS, NOT_NAMES, all_cases, many_facts
from tests.makers import BookMaker, example_book, read, rule, small_books


def still_possible(book, known):
    """All cases that agree with a dict of known facts."""
    return [case for case in all_cases(book.facts) if all((fact in case) == known[fact] for fact in known)]


def plain_rulings(book, known):
    return sorted(set(read(book, case)[0] for case in still_possible(book, known)))


def plain_deciders(book, known):
    ways = [read(book, case)[1] for case in still_possible(book, known)]
    found = [way[-1] if way else None for way in ways]
    return [name for name in book.names + [None] if name in found]


def plain_questions(book, known):
    """The number of questions and the first fact with which it can be kept to, by trying all of them."""
    if len(plain_rulings(book, known)) == 1:
        return 0, None
    best = None
    for fact in book.facts:
        if fact not in known:
            worst = 1 + max(plain_questions(book, {**known, fact: holds})[0] for holds in (True, False))
            if best is None or worst < best[0]:
                best = worst, fact
    return best


def plain_guess(book, known):
    found = [read(book, case)[0] for case in still_possible(book, known)]
    return min(sorted(set(found)), key=lambda ruling: -found.count(ruling))


def told_hearing(book, known):
    hearing = Hearing(book)
    for fact, holds in known.items():
        hearing.tell(fact, holds)
    return hearing


class HearingTest(unittest.TestCase):
    def assert_told(self, hearing, book, known):
        rulings = plain_rulings(book, known)
        self.assertEqual(list(hearing.known.items()), list(known.items()))
        self.assertEqual(hearing.possible(), rulings)
        self.assertEqual(hearing.settled(), rulings[0] if len(rulings) == 1 else None)
        self.assertEqual(hearing.deciders(), plain_deciders(book, known))
        self.assertEqual(hearing.open_count(), len(still_possible(book, known)))
        self.assertEqual(best_guess(hearing), plain_guess(book, known))
        for fact in book.facts:
            if fact not in known:
                for holds in (True, False):
                    self.assertEqual(hearing.possible_after(fact, holds), plain_rulings(book, {**known, fact: holds}))

    def test_small_books(self):
        maker = BookMaker(71)
        for book in small_books(72, 120):
            hearing = Hearing(book)
            known = {}
            order = maker.random.sample(book.facts, len(book.facts))
            self.assert_told(hearing, book, known)
            for fact in order:
                known[fact] = maker.random.random() < 0.5
                self.assertEqual(hearing.tell(fact, known[fact]), plain_rulings(book, known))
                self.assert_told(hearing, book, known)
            for fact in order[::-1]:
                self.assertEqual(hearing.take_back(), fact)
                del known[fact]
                self.assert_told(hearing, book, known)
            self.assertIsNone(hearing.take_back())
            self.assert_told(hearing, book, {})

    def test_order_of_known(self):
        hearing = told_hearing(example_book(), {"paid": True, "first": False, "late": True})
        self.assertEqual(list(hearing.known.items()), [("paid", True), ("first", False), ("late", True)])
        self.assertEqual(hearing.take_back(), "late")
        hearing.tell("owns", False)
        hearing.tell("late", False)
        self.assertEqual(list(hearing.known), ["paid", "first", "owns", "late"])
        self.assertIs(hearing.known["late"], False)

    def test_known_belongs_to_the_caller(self):
        hearing = told_hearing(example_book(), {"late": False})
        known = hearing.known
        known["owns"] = True
        known.pop("late")
        self.assertEqual(hearing.known, {"late": False})
        self.assertEqual(hearing.open_count(), 8)
        hearing.possible().clear()
        hearing.deciders().clear()
        self.assertEqual((hearing.possible(), hearing.deciders()), (["keep", "none"], ["keep", None]))

    def test_none_among_the_deciders(self):
        hearing = Hearing(example_book())
        self.assertEqual(hearing.deciders(), ["fine", "mild", "keep", None])
        hearing.tell("owns", True)
        self.assertEqual(hearing.deciders(), ["fine", "mild", "keep"])
        hearing.tell("paid", True)
        self.assertEqual(hearing.deciders(), ["keep"])
        self.assertEqual(Hearing(Book(FACTS, (), "n")).deciders(), [None])
        self.assertEqual(Hearing(Book(FACTS, (rule("a"),), "n")).deciders(), ["a"])

    def test_deciders_by_their_numbers(self):
        inner = (rule("b", ("late",), (), "y"), rule("c", ("owns",), (), "z"))
        book = Book(FACTS, (rule("d", ("first",), (), "x", inner), rule("a")), "n")
        self.assertEqual(Hearing(book).deciders(), ["d", "b", "c", "a"])

    def test_take_back_with_nothing_told(self):
        hearing = Hearing(example_book())
        self.assertIsNone(hearing.take_back())
        self.assertEqual(hearing.known, {})

    def test_a_fact_told_anew(self):
        hearing = Hearing(example_book())
        self.assertEqual(hearing.tell("late", True), ["keep", "none", "pay", "warn"])
        self.assertEqual(hearing.take_back(), "late")
        self.assertEqual(hearing.tell("late", False), ["keep", "none"])
        with self.assertRaises(AlreadyKnown):
            hearing.tell("late", True)
        self.assertEqual(hearing.take_back(), "late")
        self.assertEqual(hearing.known, {})

    def test_errors_change_nothing(self):
        book = example_book()
        hearing = told_hearing(book, {"late": True, "owns": False})
        for call in (hearing.tell, hearing.possible_after):
            for wrong in (*NOT_NAMES, "zoo", "pay", "fine"):
                for holds in (True, False):
                    with self.assertRaises(UnknownFact):
                        call(wrong, holds)
            for fact in ("late", "owns"):
                with self.assertRaises(AlreadyKnown):
                    call(fact, True)
            self.assertEqual(list(hearing.known.items()), [("late", True), ("owns", False)])
            self.assert_told(hearing, book, {"late": True, "owns": False})

    def test_possible_after_changes_nothing(self):
        hearing = Hearing(example_book())
        self.assertEqual(hearing.possible_after("late", False), ["keep", "none"])
        self.assertEqual((hearing.known, hearing.open_count()), ({}, 16))
        self.assertEqual(hearing.possible(), ["keep", "none", "pay", "warn"])
        self.assertEqual(hearing.tell("late", True), ["keep", "none", "pay", "warn"])

    def test_two_hearings_of_one_book(self):
        book = example_book()
        first, second = Hearing(book), Hearing(book)
        first.tell("late", False)
        self.assertEqual((second.known, second.possible()), ({}, ["keep", "none", "pay", "warn"]))


class QuestionsTest(unittest.TestCase):
    def assert_questions(self, book, known):
        hearing = told_hearing(book, known)
        number, fact = plain_questions(book, known)
        self.assertEqual(fewest_questions(hearing), number)
        self.assertEqual(next_question(hearing), fact)
        self.assertEqual(hearing.known, known)

    def test_small_books(self):
        maker = BookMaker(73)
        for book in small_books(74, 80):
            order = maker.random.sample(book.facts, len(book.facts))
            for count in range(len(order) + 1):
                self.assert_questions(book, {fact: maker.random.random() < 0.5 for fact in order[:count]})

    def test_ways_through_a_hearing(self):
        # Asked as told, no hearing takes longer than told at its beginning.
        for book in small_books(75, 60):
            most = fewest_questions(Hearing(book))
            asked = []
            for case in all_cases(book.facts):
                hearing = Hearing(book)
                while (fact := next_question(hearing)) is not None:
                    hearing.tell(fact, fact in case)
                self.assertEqual(hearing.settled(), read(book, case)[0])
                asked.append(len(hearing.known))
            self.assertEqual(max(asked), most)

    def test_settled(self):
        for book in (Book(FACTS, (), "n"), Book(FACTS, (rule("a", (), (), "x"),), "n"),
                     Book(FACTS, (rule("a", ("late",), (), "n"),), "n")):
            self.assertEqual(fewest_questions(Hearing(book)), 0)
            self.assertIsNone(next_question(Hearing(book)))
        hearing = told_hearing(example_book(), {"owns": True, "paid": True})
        self.assertEqual((fewest_questions(hearing), next_question(hearing)), (0, None))

    def test_first_of_several_facts(self):
        book = Book(("a", "b", "c"), (rule("x", ("b", "c"), (), "y"),), "n")
        self.assertEqual((fewest_questions(Hearing(book)), next_question(Hearing(book))), (2, "b"))
        book = Book(("a", "b", "c"), (rule("x", ("a", "b"), (), "y"), rule("z", ("c",), ("a",), "y")), "n")
        self.assertEqual((fewest_questions(Hearing(book)), next_question(Hearing(book))), (2, "a"))

    def test_eight_facts_and_nine(self):
        facts = many_facts(12)
        for count in (8, 9):
            book = Book(facts, tuple(rule("r" + name, (name,), (), "x") for name in facts[1:1 + count]), "y")
            hearing = Hearing(book)
            if count == 8:
                self.assertEqual((fewest_questions(hearing), next_question(hearing)), (8, facts[1]))
            else:
                for call in (fewest_questions, next_question):
                    with self.assertRaises(TooMany):
                        call(hearing)
                hearing.tell(facts[4], False)
                self.assertEqual((fewest_questions(hearing), next_question(hearing)), (8, facts[1]))
                hearing.take_back()
                hearing.tell(facts[4], True)
                self.assertEqual((fewest_questions(hearing), next_question(hearing)), (0, None))

    def test_eight_facts_by_a_book_with_many_cases(self):
        facts = many_facts(8)
        book = BookMaker(76).book(facts, 25, 3, 4)
        hearing = Hearing(book)
        known = {}
        for fact in facts[:4]:
            hearing.tell(fact, True)
            known[fact] = True
        self.assertEqual((fewest_questions(hearing), next_question(hearing)), plain_questions(book, known))
        self.assertGreaterEqual(fewest_questions(Hearing(book)), fewest_questions(hearing))

    def test_facts_that_are_named_but_do_not_matter(self):
        facts = many_facts(20)
        named = rule("a", facts[:4], facts[4:8], "y", (rule("b", facts[8:12], (), "y"),))
        hidden = rule("c", facts[12:13], (), "x", (rule("d", (), facts[12:13], "y", (rule("e", facts[13:20]),)),))
        self.assertEqual(fewest_questions(Hearing(Book(facts, (hidden, named), "y"))), 1)
        self.assertEqual(next_question(Hearing(Book(facts, (hidden, named), "y"))), facts[12])
        self.assertEqual(fewest_questions(Hearing(Book(facts, (rule("f", (), (), "z"), named, hidden), "n"))), 0)

    def test_matters_only_together_with_known_facts(self):
        facts = many_facts(16)
        rules = tuple(rule("r" + facts[at], (facts[at], facts[at + 8]), (), "x") for at in range(8))
        hearing = Hearing(Book(facts, rules, "y"))
        with self.assertRaises(TooMany):
            fewest_questions(hearing)
        for fact in facts[:7]:
            hearing.tell(fact, False)
        self.assertEqual((fewest_questions(hearing), next_question(hearing)), (2, facts[7]))
        hearing.take_back()
        hearing.tell(facts[6], True)
        self.assertEqual((fewest_questions(hearing), next_question(hearing)), (3, facts[7]))

    def test_best_guess_of_equally_frequent_rulings(self):
        book = Book(FACTS, (rule("a", ("late",), (), "zoo"), rule("b", ("paid",), (), "cat")), "ant")
        self.assertEqual(best_guess(Hearing(book)), "zoo")
        self.assertEqual(best_guess(told_hearing(book, {"late": False})), "ant")
        other = Book(FACTS, (rule("a", ("late",), (), "cat"),), "zoo")
        self.assertEqual(best_guess(Hearing(other)), "cat")
        self.assertEqual(best_guess(told_hearing(other, {"late": False})), "zoo")


class HearTest(unittest.TestCase):
    def plain_hear(self, book, case, facts):
        for count in range(len(facts) + 1):
            if len(plain_rulings(book, {fact: fact in case for fact in facts[:count]})) == 1:
                return read(book, case)[0], count
        return read(book, case)[0], None

    def test_small_books(self):
        maker = BookMaker(77)
        for book in small_books(78, 60):
            for case in all_cases(book.facts):
                facts = maker.random.sample(book.facts, maker.random.randint(0, len(book.facts)))
                self.assertEqual(hear(book, case, facts), self.plain_hear(book, case, facts))
                full = maker.random.sample(book.facts, len(book.facts))
                self.assertEqual(hear(book, case, full), self.plain_hear(book, case, full))

    def test_settled_at_once_and_never(self):
        book = Book(FACTS, (rule("a", ("late",), (), "x"),), "x")
        self.assertEqual(hear(book, ("late",), []), ("x", 0))
        self.assertEqual(hear(book, ("late",), ["paid", "late"]), ("x", 0))
        self.assertEqual(hear(example_book(), (), []), ("none", None))
        self.assertEqual(hear(example_book(), ("paid",), ["late", "owns"]), ("none", 2))
        self.assertEqual(hear(example_book(), (), list(FACTS)), ("none", 3))

    def test_wrong_cases_ahead(self):
        for wrong in (*NOT_NAMES, "zoo", "first", "late"):
            with self.assertRaises(InvalidCase) as caught:
                hear(example_book(), ("late", wrong), ["zoo"])
            self.assertEqual(caught.exception.index, 1)

    def test_wrong_facts(self):
        book = example_book()
        for wrong in (*NOT_NAMES, "zoo"):
            for facts in ([wrong], ["late", wrong], ["late", wrong, "late"], ["owns", "paid", wrong]):
                with self.assertRaises(UnknownFact):
                    hear(book, ("owns", "paid"), facts)
        for facts in (["late", "late"], ["late", "owns", "late"], ["late", "late", "zoo"], ["owns", "paid", "owns"]):
            with self.assertRaises(AlreadyKnown):
                hear(book, ("owns", "paid"), facts)

    def test_wrong_facts_behind_the_settled_one(self):
        book = Book(FACTS, (), "x")
        with self.assertRaises(UnknownFact):
            hear(book, (), ["late", "zoo"])
        with self.assertRaises(AlreadyKnown):
            hear(book, (), ["late", "late"])

    def test_facts_stay_as_they_were(self):
        facts = ["owns", "late"]
        hear(example_book(), (), facts)
        self.assertEqual(facts, ["owns", "late"])


class SixtyFactsTest(unittest.TestCase):
    def test_pairs(self):
        facts = many_facts(60)
        pairs = tuple(rule("r" + facts[at], (facts[at], facts[59 - at]), (), "x") for at in range(30))
        book = Book(facts, pairs, "y")
        hearing = Hearing(book)
        self.assertEqual((hearing.possible(), hearing.open_count()), (["x", "y"], 2 ** 60))
        self.assertEqual(hearing.deciders(), ["r" + name for name in facts[:30]] + [None])
        self.assertEqual(best_guess(hearing), "x")
        self.assertEqual(hear(book, facts[:30], list(facts)), ("y", 60))
        self.assertEqual(hear(book, facts, list(facts)), ("x", 31))
        with self.assertRaises(TooMany):
            fewest_questions(hearing)
        for name in facts[:26]:
            self.assertEqual(hearing.possible_after(name, False), ["x", "y"])
            hearing.tell(name, False)
        self.assertEqual(best_guess(hearing), "x")
        self.assertEqual((fewest_questions(hearing), next_question(hearing)), (8, facts[26]))
        self.assertEqual(hearing.tell(facts[26], True), ["x", "y"])
        self.assertEqual(hearing.possible_after(facts[33], True), ["x"])
        self.assertEqual(hearing.deciders(), ["r" + name for name in facts[26:30]] + [None])
        self.assertEqual(hearing.open_count(), 2 ** 33)
        hearing.tell(facts[33], True)
        self.assertEqual((hearing.settled(), hearing.deciders()), ("x", ["r" + facts[26]]))

    def test_few_named_facts(self):
        facts = many_facts(60)
        maker = BookMaker(79)
        for _ in range(10):
            named = tuple(sorted(maker.random.sample(facts, 5)))
            rules = maker.rules(named, ["r" + name for name in facts[:12]], 3, 3, ("a", "b", "c"))
            small, book = Book(named, rules, "d"), Book(facts, rules, "d")
            hearing = Hearing(book)
            known = {}
            for fact in maker.random.sample(named, 5):
                hearing.tell(maker.random.choice([name for name in facts if name not in hearing.known and name not in named]), True)
                self.assertEqual(hearing.deciders(), plain_deciders(small, known))
                self.assertEqual(best_guess(hearing), plain_guess(small, known))
                self.assertEqual((fewest_questions(hearing), next_question(hearing)), plain_questions(small, known))
                known[fact] = maker.random.random() < 0.5
                self.assertEqual(hearing.tell(fact, known[fact]), plain_rulings(small, known))


if __name__ == "__main__":
    unittest.main()
