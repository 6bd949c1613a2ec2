import unittest
from itertools import combinations

from smallcourt.books import Book
from smallcourt.dockets import Docket, effect_of, fewest_appeals, looked_at, retried, without
from smallcourt.errors import InvalidCase, InvalidDocket, InvalidNumber, InvalidRuling, UnknownLabel
from tests.helpers import FACTS, NOT_NAMES, letters, many_facts
from tests.makers import BookMaker, example_book, read, rule, statute_book

NOT_NUMBERS = (True, False, None, "0", 0.0, (), (0,), [], [0], "late")


def example_docket():
    book = statute_book()
    free = Book(book.facts, (), "free")
    return Docket((book, free), (("ann", ("late",), (), 0), ("bob", ("late",), (("ann", "fine", "first"),), 0)))


def plain_results(books, entries, forced=None, appealed=()):
    """A dict from labels to (ruling, decider, full case) by a plain reading."""
    found = {}
    for label, case, looks, court in entries:
        facts = set(case)
        for earlier, ruling, fact in looks:
            if found[earlier][0] == ruling:
                facts.add(fact)
        full = tuple(sorted(facts))
        ruling, way, _ = read(books[court + (label in appealed)], full)
        if forced and label in forced:
            ruling = forced[label]
        found[label] = (ruling, way[-1] if way else None, full)
    return found


def plain_looked_at(entries, label):
    looks = {entry[0]: [look[0] for look in entry[2]] for entry in entries}
    found, rest = set(), [label]
    while rest:
        for earlier in looks[rest.pop()]:
            if earlier not in found:
                found.add(earlier)
                rest.append(earlier)
    return [entry[0] for entry in entries if entry[0] in found]


def plain_appeals(books, entries, label, ruling, most):
    movable = [entry[0] for entry in entries if entry[3] < len(books) - 1]
    for size in range(most + 1):
        for chosen in combinations(movable, size):
            if plain_results(books, entries, None, chosen)[label][0] == ruling:
                return list(chosen)
    return None


class DocketMaker(BookMaker):
    def docket(self, most):
        """Books and entries of a docket."""
        facts = tuple(sorted(self.random.sample(["ash", "bee", "cat", "dog", "elk"], self.random.randint(2, 5))))
        books = tuple(self.book(facts, self.random.randint(1, 6), 3, 2, ("a", "b")) for _ in range(self.random.randint(1, 4)))
        entries = []
        for number in range(self.random.randint(0, most)):
            case = tuple(name for name in facts if self.random.random() < 0.3)
            looks = []
            for _ in range(self.random.randint(0, 3) if entries else 0):
                looks.append((self.random.choice(entries)[0], self.random.choice("abbd"), self.random.choice(facts)))
            entries.append(("l" + letters(number), case, tuple(looks), self.random.randint(0, len(books) - 1)))
        return books, tuple(entries)


def small_dockets(seed, count, most=7):
    maker = DocketMaker(seed)
    return [maker.docket(most) for _ in range(count)]


class DocketTest(unittest.TestCase):
    def test_small_dockets(self):
        full = 0
        for books, entries in small_dockets(111, 150, 10):
            docket = Docket(books, entries)
            expected = plain_results(books, entries)
            self.assertEqual({label: docket[label] for label in expected}, expected)
            self.assertEqual((docket.books, docket.entries, len(docket)), (books, entries, len(entries)))
            for label in expected:
                self.assertIs(label in docket, True)
            full += sum(docket[entry[0]][2] != entry[1] for entry in entries)
        self.assertGreater(full, 100)

    def test_looks_through_several_entries(self):
        book = Book(("a", "b", "c"), (rule("r", ("a",), (), "x"), rule("s", ("b",), (), "y")), "n")
        entries = (("p", (), (), 0), ("q", (), (("p", "n", "a"),), 0), ("r", (), (("q", "x", "b"), ("p", "y", "c")), 0),
                   ("s", ("c",), (("r", "y", "a"), ("q", "n", "b")), 0))
        docket = Docket((book,), entries)
        self.assertEqual([docket[label] for label in "pqrs"], [
            ("n", None, ()), ("x", "r", ("a",)), ("y", "s", ("b",)), ("x", "r", ("a", "c")),
        ])

    def test_a_fact_of_a_look_that_stands_in_the_case(self):
        entries = (("p", ("late",), (), 0), ("q", ("first", "late"), (("p", "fine", "first"), ("p", "fine", "late")), 0),
                   ("r", (), (("p", "fine", "late"), ("q", "warn", "late"), ("p", "fine", "late")), 0))
        docket = Docket((statute_book(),), entries)
        self.assertEqual(docket["q"], ("warn", "mild", ("first", "late")))
        self.assertEqual(docket["r"], ("fine", "late", ("late",)))

    def test_courts(self):
        books = tuple(Book(FACTS, (rule("r" + word, (), (), word),), "n") for word in ("w", "x", "y", "z"))
        entries = tuple(("l" + str("abcd"[court]), (), (), court) for court in (3, 1, 0, 2))
        docket = Docket(books, entries)
        self.assertEqual([docket[label] for label in ("la", "lb", "lc", "ld")],
                         [("w", "rw", ()), ("x", "rx", ()), ("y", "ry", ()), ("z", "rz", ())])

    def test_empty(self):
        docket = Docket((statute_book(),), ())
        self.assertEqual((len(docket), docket.entries, "ann" in docket), (0, (), False))

    def test_unknown_labels(self):
        docket = example_docket()
        for wrong in (*NOT_NAMES, "zoo", "late", "fine", ("ann",), -1):
            self.assertIs(wrong in docket, False)
            with self.assertRaises(UnknownLabel):
                docket[wrong]

    def test_iteration(self):
        docket = example_docket()
        for call in (lambda: list(docket), lambda: iter(docket), lambda: [one for one in docket], lambda: sorted(docket)):
            with self.assertRaises(TypeError):
                call()


class InvalidTest(unittest.TestCase):
    def assert_wrong(self, books, entries, part, index):
        with self.assertRaises(InvalidDocket) as caught:
            Docket(books, entries)
        self.assertEqual((caught.exception.part, caught.exception.index), (part, index))

    def test_number_of_books(self):
        book = statute_book()
        for count in (1, 2, 3, 4):
            self.assertEqual(len(Docket((book,) * count, ()).books), count)
        self.assert_wrong((), (), "books", 0)
        self.assert_wrong((book,) * 5, (), "books", 4)
        self.assert_wrong((book,) * 7, (None,), "books", 4)

    def test_books_with_other_facts(self):
        book, other = statute_book(), example_book()
        self.assert_wrong((book, other), (), "books", 1)
        self.assert_wrong((book, book, other, book, other), (), "books", 2)
        self.assert_wrong((book, book, book, book, other), (), "books", 4)
        self.assert_wrong((other, book, book), (), "books", 1)
        self.assertEqual(len(Docket((book, Book(book.facts, (), "x")), ()).books), 2)

    def test_books_ahead_of_entries(self):
        self.assert_wrong((statute_book(), example_book()), (None,), "books", 1)
        self.assert_wrong((), (None,), "books", 0)

    def test_forty_entries(self):
        entries = tuple(("l" + letters(number), (), (), 0) for number in range(45))
        self.assertEqual(len(Docket((statute_book(),), entries[:40])), 40)
        self.assert_wrong((statute_book(),), entries[:41], "entries", 40)
        self.assert_wrong((statute_book(),), entries, "entries", 40)
        self.assert_wrong((statute_book(),), entries[:40] + (None,), "entries", 40)
        self.assert_wrong((statute_book(),), entries[:39] + (None,) + entries[39:], "entries", 39)

    def assert_entry(self, wrong, court=0):
        right = (("ann", ("late",), (), 0), ("bob", (), (("ann", "fine", "late"),), 0))
        books = (statute_book(), statute_book())
        self.assertEqual(len(Docket(books, right)), 2)
        self.assert_wrong(books, right + (wrong,), "entries", 2)
        self.assert_wrong(books, right + (wrong, None) + right, "entries", 2)

    def test_no_tuples(self):
        for wrong in (*NOT_NAMES, "zoo", ["zoo", (), (), 0], ("zoo", (), ()), ("zoo", (), (), 0, 0), ("zoo",), "abcd"):
            self.assert_entry(wrong)

    def test_labels(self):
        for wrong in (*NOT_NAMES, "ann", "bob"):
            self.assert_entry((wrong, (), (), 0))

    def test_cases(self):
        for wrong in (*NOT_NAMES, "late", ["late"], ("zoo",), ("late", "first"), ("late", "late"), {"late": 1}):
            if wrong != () and wrong != ("late",):
                self.assert_entry(("zoo", wrong, (), 0))
        for wrong in NOT_NAMES:
            self.assert_entry(("zoo", (wrong,), (), 0))
            self.assert_entry(("zoo", ("first", "late", wrong), (), 0))

    def test_looks(self):
        look = ("ann", "fine", "late")
        for wrong in (*NOT_NAMES, "ann", [look], look, (look, None), ((look,),), ([*look],), (look[:2],), (look + (0,),)):
            if wrong != ():
                self.assert_entry(("zoo", (), wrong, 0))
        for wrong in (*NOT_NAMES, "zoo", "dan", "fine"):
            self.assert_entry(("zoo", (), ((wrong, "fine", "late"),), 0))
        for wrong in NOT_NAMES:
            self.assert_entry(("zoo", (), (look, ("ann", wrong, "late")), 0))
        for wrong in (*NOT_NAMES, "zoo", "fine", "ann", "owns"):
            self.assert_entry(("zoo", (), (look, ("ann", "fine", wrong)), 0))

    def test_looks_at_later_entries(self):
        entries = (("ann", (), (("bob", "free", "late"),), 0), ("bob", (), (), 0))
        self.assert_wrong((statute_book(),), entries, "entries", 0)
        self.assert_wrong((statute_book(),), (("ann", (), (("ann", "free", "late"),), 0),), "entries", 0)

    def test_six_looks_and_seven(self):
        looks = tuple(("ann", "fine", fact) for fact in ("first", "late", "paid")) * 3
        entries = (("ann", ("late",), (), 0), ("bob", (), looks[:6], 0))
        self.assertEqual(Docket((statute_book(),), entries)["bob"][2], ("first", "late", "paid"))
        self.assert_entry(("zoo", (), looks[:7], 0))
        self.assert_entry(("zoo", (), looks, 0))

    def test_rulings_of_looks_need_not_stand_in_the_book(self):
        entries = (("ann", ("late",), (), 0), ("bob", (), (("ann", "zoo", "late"),), 0))
        self.assertEqual(Docket((statute_book(),), entries)["bob"], ("free", None, ()))

    def test_courts(self):
        for wrong in (*NOT_NUMBERS, -1, 2, 3, -2):
            self.assert_entry(("zoo", (), (), wrong))


class LooksTest(unittest.TestCase):
    def test_looked_at(self):
        found = 0
        for books, entries in small_dockets(113, 100, 10):
            docket = Docket(books, entries)
            for entry in entries:
                expected = plain_looked_at(entries, entry[0])
                self.assertEqual(looked_at(docket, entry[0]), expected)
                found += len(expected) > len(set(look[0] for look in entry[2]))
        self.assertGreater(found, 50)

    def test_looks_through_others(self):
        entries = (("z", (), (), 0), ("y", (), (("z", "free", "late"),), 0), ("x", (), (), 0),
                   ("w", (), (("y", "no", "late"), ("y", "no", "paid"), ("x", "no", "late")), 0))
        docket = Docket((statute_book(),), entries)
        self.assertEqual([looked_at(docket, label) for label in "zyxw"], [[], ["z"], [], ["z", "y", "x"]])
        looked_at(docket, "w").clear()
        self.assertEqual(looked_at(docket, "w"), ["z", "y", "x"])

    def test_effect_of(self):
        found = 0
        for books, entries in small_dockets(115, 100, 10):
            docket = Docket(books, entries)
            plain = plain_results(books, entries)
            for entry in entries:
                for ruling in ("a", "b", "d", "zoo"):
                    forced = plain_results(books, entries, {entry[0]: ruling})
                    expected = [one for one in plain if one != entry[0] and forced[one][0] != plain[one][0]]
                    self.assertEqual(effect_of(docket, entry[0], ruling), expected)
                    found += len(expected)
                self.assertEqual(effect_of(docket, entry[0], docket[entry[0]][0]), [])
            self.assertEqual({label: docket[label] for label in plain}, plain)
        self.assertGreater(found, 100)

    def test_effect_through_others(self):
        book = Book(("a", "b"), (rule("r", ("a",), (), "x"),), "n")
        entries = (("p", (), (), 0), ("q", (), (("p", "y", "a"),), 0), ("r", (), (("q", "x", "a"),), 0), ("s", (), (("q", "x", "b"),), 0))
        docket = Docket((book,), entries)
        self.assertEqual(effect_of(docket, "p", "y"), ["q", "r"])
        self.assertEqual(effect_of(docket, "q", "x"), ["r"])
        self.assertEqual(effect_of(docket, "s", "x"), [])


class ChangedDocketsTest(unittest.TestCase):
    def test_without(self):
        for books, entries in small_dockets(117, 80, 10):
            docket = Docket(books, entries)
            for place, entry in enumerate(entries):
                label = entry[0]
                rest = tuple((one, case, tuple(look for look in looks if look[0] != label), court)
                             for one, case, looks, court in entries[:place] + entries[place + 1:])
                less = without(docket, label)
                self.assertEqual((less.books, less.entries), (books, rest))
                plain = plain_results(books, rest)
                self.assertEqual({one: less[one] for one in plain}, plain)
                self.assertIs(label in less, False)
            self.assertEqual(docket.entries, entries)

    def test_without_the_only_entry(self):
        docket = Docket((statute_book(),), (("ann", (), (), 0),))
        self.assertEqual(len(without(docket, "ann")), 0)
        self.assertEqual(len(docket), 1)

    def test_retried(self):
        maker = BookMaker(118)
        for books, entries in small_dockets(119, 80, 10):
            docket = Docket(books, entries)
            for place, (label, _, looks, court) in enumerate(entries):
                case = tuple(name for name in books[0].facts if maker.random.random() < 0.5)
                changed = entries[:place] + ((label, case, looks, court),) + entries[place + 1:]
                other = retried(docket, label, case)
                self.assertEqual((other.books, other.entries), (books, changed))
                plain = plain_results(books, changed)
                self.assertEqual({one: other[one] for one in plain}, plain)
            self.assertEqual(docket.entries, entries)

    def test_wrong_cases_of_retried(self):
        docket = example_docket()
        for wrong in (*NOT_NAMES, "zoo", "first", "late"):
            with self.assertRaises(InvalidCase) as caught:
                retried(docket, "ann", ("late", wrong))
            self.assertEqual(caught.exception.index, 1)
        self.assertEqual(docket["ann"], ("fine", "late", ("late",)))


class AppealsTest(unittest.TestCase):
    def test_small_dockets(self):
        sizes = []
        for books, entries in small_dockets(121, 250, 8):
            docket = Docket(books, entries)
            for entry in entries:
                for ruling in ("a", "b", "d"):
                    for most in range(4):
                        expected = plain_appeals(books, entries, entry[0], ruling, most)
                        self.assertEqual(fewest_appeals(docket, entry[0], ruling, most), expected)
                        sizes.append(-1 if expected is None else len(expected))
        self.assertGreater(sizes.count(1), 50)
        self.assertGreater(sizes.count(2), 5)

    def test_the_entry_itself_and_entries_of_the_last_court(self):
        docket = example_docket()
        self.assertEqual(fewest_appeals(docket, "ann", "free", 3), ["ann"])
        self.assertEqual(fewest_appeals(docket, "bob", "free", 3), ["bob"])
        self.assertEqual(fewest_appeals(docket, "bob", "fine", 3), ["ann"])
        self.assertEqual(fewest_appeals(docket, "bob", "warn", 0), [])
        self.assertIsNone(fewest_appeals(docket, "bob", "fine", 0))
        self.assertIsNone(fewest_appeals(docket, "bob", "zoo", 3))
        last = Docket(docket.books, tuple(entry[:3] + (1,) for entry in docket.entries))
        self.assertEqual(fewest_appeals(last, "bob", "free", 3), [])
        self.assertIsNone(fewest_appeals(last, "bob", "warn", 3))

    def test_first_of_several(self):
        low = Book(("a", "b", "c"), (), "n")
        high = Book(("a", "b", "c"), (rule("r", (), (), "x"),), "n")
        looks = tuple((label, "x", fact) for label, fact in (("z", "a"), ("y", "b"), ("x", "c")))
        top = Book(("a", "b", "c"), (rule("s", ("b", "c"), (), "w"), rule("t", ("a", "b"), (), "w"), rule("u", ("a", "c"), (), "w")), "n")
        entries = (("z", (), (), 1), ("y", (), (), 1), ("x", (), (), 1), ("v", (), looks, 0))
        docket = Docket((top, low, high), entries)
        self.assertEqual(fewest_appeals(docket, "v", "w", 3), ["z", "y"])
        self.assertIsNone(fewest_appeals(docket, "v", "w", 1))
        less = Docket((top - "t", low, high), entries)
        self.assertEqual(fewest_appeals(less, "v", "w", 2), ["z", "x"])

    def test_three_appeals(self):
        facts = ("a", "b", "c", "d")
        low = Book(facts, (rule("r", facts, (), "w"),), "n")
        high = Book(facts, (rule("r", (), (), "x"),), "n")
        entries = tuple((label, (), (), 0) for label in ("p", "q", "r", "s"))
        looks = tuple((label, "x", fact) for label, fact in zip("pqrs", facts))
        for case, expected in ((("a",), ["q", "r", "s"]), ((), None), (("b", "d"), ["p", "r"])):
            docket = Docket((low, high), entries + (("t", case, looks, 0),))
            self.assertEqual(fewest_appeals(docket, "t", "w", 3), expected)

    def test_forty_entries(self):
        facts = many_facts(60)
        low = Book(facts, tuple(rule("r" + name, (name,), (), "x") for name in facts[:30]), "n")
        high = Book(facts, tuple(rule("r" + name, (name,), (), "y") for name in facts[20:60]), "z")
        entries = []
        for number in range(40):
            looks = tuple(("l" + letters(number - back), "xyz"[back % 3], facts[number + back]) for back in range(1, 7) if back <= number)
            entries.append(("l" + letters(number), facts[number:number + 1], looks, 0))
        docket = Docket((low, high), tuple(entries))
        self.assertIsNone(fewest_appeals(docket, "lbn", "zoo", 3))
        for ruling in ("x", "y", "z", "n"):
            expected = plain_appeals((low, high), entries, "lbn", ruling, 1)
            if expected is not None:
                self.assertEqual(fewest_appeals(docket, "lbn", ruling, 3), expected)

    def test_wrong_numbers(self):
        for wrong in (*NOT_NUMBERS, -1, 4):
            with self.assertRaises(InvalidNumber):
                fewest_appeals(example_docket(), "ann", "fine", wrong)


class OrderOfErrorsTest(unittest.TestCase):
    def test_labels_first(self):
        docket = example_docket()
        for wrong in (*NOT_NAMES, "zoo", "late"):
            for call in (lambda: looked_at(docket, wrong), lambda: effect_of(docket, wrong, None),
                         lambda: without(docket, wrong), lambda: retried(docket, wrong, (None,)),
                         lambda: fewest_appeals(docket, wrong, None, -1)):
                with self.assertRaises(UnknownLabel):
                    call()

    def test_rulings_then_numbers(self):
        docket = example_docket()
        for wrong in NOT_NAMES:
            for call in (lambda: effect_of(docket, "ann", wrong), lambda: fewest_appeals(docket, "ann", wrong, -1)):
                with self.assertRaises(InvalidRuling):
                    call()
        self.assertEqual(effect_of(docket, "ann", "zoo"), ["bob"])
        self.assertEqual(docket["bob"], ("warn", "mild", ("first", "late")))


if __name__ == "__main__":
    unittest.main()
