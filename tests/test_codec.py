import unittest

from smallcourt.books import Book, Rule
from smallcourt.codec import decode_book, encode_book
from smallcourt.conditions import Condition
from smallcourt.errors import CourtError, DecodeError
from tests.helpers import FACTS, many_facts
from tests.makers import BookMaker, example_book, nested_book, rule, small_books, statute_book
from tests.plain_texts import closed, plain_code

NOT_ITEMS = (True, False, None, "1", "", 1.0, (), [], (1,), [1], -1, -66, 256, 1000, 10 ** 30, -10 ** 30)


def drawn_books():
    return small_books(421, 100) + [nested_book(seed, 1 + seed % 6, 2 + seed % 12) for seed in range(60)]


def code(*parts):
    """Numbers with their checksum: integers as they are, strings as names, lists within."""
    numbers = []
    for part in parts:
        if isinstance(part, str):
            numbers += [len(part)] + [ord(letter) - 96 for letter in part]
        elif isinstance(part, list):
            numbers += code(*part)[:-1]
        else:
            numbers.append(part)
    return closed(numbers)


def simple(name, exceptions=0):
    """The parts of a rule without a condition, up to the number of its exceptions."""
    return [name, "x", 0, 0, exceptions]


class Wrong(Exception):
    """The offset of a wrong item."""


class PlainDecoder:
    """Reads items with the list of all that is told to be wrong in the document."""

    def __init__(self, items):
        self.items, self.at, self.names, self.many = items, 0, [], 0

    def item(self, low, high):
        if self.at >= len(self.items):
            raise Wrong(len(self.items))
        found = self.items[self.at]
        if type(found) is not int or found < low or found > high:
            raise Wrong(self.at)
        self.at += 1
        return found

    def name(self):
        start = self.at
        letters = [self.item(1, 26) for _ in range(self.item(1, 8))]
        return start, "".join("?abcdefghijklmnopqrstuvwxyz"[letter] for letter in letters)

    def rules(self, around):
        count = self.item(0, 40 if around == 0 else 0 if around > 5 else 60 - self.many)
        self.many += count
        made = []
        for _ in range(count):
            start, name = self.name()
            if name in self.names:
                raise Wrong(start)
            self.names.append(name)
            _, ruling = self.name()
            parts = []
            for taken in (0, 1):
                part = []
                for _ in range(self.item(0, 8 - (len(parts[0]) if taken else 0))):
                    place = self.item(0, len(self.facts) - 1)
                    if part and place <= part[-1] or taken and place in parts[0]:
                        raise Wrong(self.at - 1)
                    part.append(place)
                parts.append(part)
            holding, failing = (tuple(self.facts[place] for place in part) for part in parts)
            made.append(Rule(name, Condition(holding, failing), ruling, self.rules(around + 1)))
        return tuple(made)

    def book(self):
        self.item(66, 66)
        self.facts = []
        for _ in range(self.item(1, 60)):
            start, fact = self.name()
            if self.facts and fact <= self.facts[-1]:
                raise Wrong(start)
            self.facts.append(fact)
        rules = self.rules(0)
        _, ruling = self.name()
        total = closed(self.items[:self.at])[-1]
        self.item(total, total)
        if self.at < len(self.items):
            raise Wrong(self.at)
        return Book(tuple(self.facts), rules, ruling)


class CodecTest(unittest.TestCase):
    def assert_wrong(self, items, offset):
        given = list(items)
        with self.assertRaises(DecodeError, msg=items) as caught:
            decode_book(items)
        self.assertEqual(caught.exception.offset, offset, items)
        self.assertEqual([(type(one), one) for one in items], [(type(one), one) for one in given])

    def assert_parts(self, offset, *parts):
        """The offset is wrong, whatever stands behind the wrong part, and also if nothing does."""
        items = code(*parts)
        self.assert_wrong(items, offset)
        self.assert_wrong(items[:offset + 1], offset)
        self.assert_wrong(items[:-1], offset)
        self.assert_wrong(items + [0], offset)
        self.assert_wrong(code(*parts, "free"), offset)


class EncodeTest(CodecTest):
    def test_drawn_books(self):
        for book in drawn_books():
            items = encode_book(book)
            self.assertEqual(items, plain_code(book))
            self.assertEqual(decode_book(items), book)
            self.assertEqual(items, plain_code(book))
            self.assertTrue(all(type(item) is int and 0 <= item <= 255 for item in items))

    def test_numbers(self):
        self.assertEqual(encode_book(Book(("late",), (), "free")), [66, 1, 4, 12, 1, 20, 5, 0, 4, 6, 18, 5, 5, 9])
        self.assertEqual(encode_book(statute_book()), code(
            66, 3, "first", "late", "paid", 1, "late", "fine", 1, 1, 1, 2, 1, "mild", "warn", 1, 0, 0, 0, "free",
        ))
        self.assertEqual(encode_book(Book(("a", "z"), (rule("z"), rule("y", (), ("a", "z"))), "zzzzzzzz")), code(
            66, 2, "a", "z", 2, "z", "free", 0, 0, 0, "y", "free", 0, 2, 0, 1, 0, "zzzzzzzz",
        ))

    def test_large_books(self):
        facts = many_facts(60)
        for seed in range(6):
            book = BookMaker(430 + seed).book(facts, 60, 3 + seed % 4, 8)
            while len(book.rules) > 40:
                book = BookMaker(len(book.rules)).book(facts, 60, 4, 8)
            self.assertEqual(encode_book(book), plain_code(book))
            self.assertEqual(decode_book(encode_book(book)), book)

    def test_reserved_words_are_names_here(self):
        book = Book(("facts", "is"), (rule("not", ("is",), (), "if"),), "else")
        self.assertEqual(decode_book(encode_book(book)), book)

    def test_lists_are_new_for_each_call(self):
        book = example_book()
        encode_book(book).clear()
        self.assertEqual(encode_book(book), plain_code(book))
        self.assertEqual(book, example_book())


class DecodeTest(CodecTest):
    def test_changed_lists(self):
        maker = BookMaker(422)
        books, offsets = 0, set()
        for book in drawn_books():
            for _ in range(25):
                items = self.changed(maker, encode_book(book))
                try:
                    expected = PlainDecoder(items).book()
                except Wrong as wrong:
                    self.assert_wrong(items, wrong.args[0])
                    offsets.add(wrong.args[0])
                else:
                    self.assertEqual(decode_book(items), expected)
                    books += 1
        self.assertGreater(books, 300)
        self.assertGreater(len(offsets), 60)

    def changed(self, maker, items):
        """Changes an item, puts one in or leaves some out; mostly makes the checksum right again."""
        at = maker.random.randrange(len(items))
        kind = maker.random.choice(("change", "change", "change", "near", "near", "put", "leave", "swap", "end"))
        changed = list(items[:-1])
        at = min(at, len(changed) - 1)
        if kind == "change":
            changed[at] = maker.random.randint(0, 30)
        elif kind == "near":
            changed[at] += maker.random.choice((-1, 1))
        elif kind == "put":
            changed.insert(at, maker.random.randint(0, 26))
        elif kind == "leave":
            del changed[at]
        elif kind == "swap":
            other = maker.random.randrange(len(changed))
            changed[at], changed[other] = changed[other], changed[at]
        elif kind == "end":
            return items[:at]
        return closed(changed) if maker.random.random() < 0.9 else changed + [items[-1]]

    def test_items_that_are_no_integers_anywhere(self):
        for items in (encode_book(statute_book()), encode_book(Book(("late",), (), "free"))):
            for offset in range(len(items)):
                for wrong in NOT_ITEMS:
                    self.assert_wrong(items[:offset] + [wrong] + items[offset + 1:], offset)

    def test_items_missing_anywhere(self):
        for book in (statute_book(), example_book(), Book(("late",), (), "free")):
            items = encode_book(book)
            for count in range(len(items)):
                self.assert_wrong(items[:count], count)

    def test_the_first_number(self):
        for wrong in (0, 1, 65, 67, 255):
            self.assert_parts(0, wrong, 1, "late", 0, "free")
        self.assert_wrong([], 0)

    def test_the_number_of_facts(self):
        facts = list(many_facts(61))
        self.assert_parts(1, 66, 0, 0, "free")
        self.assert_parts(1, 66, 61, facts, 0, "free")
        self.assertEqual(decode_book(code(66, 60, facts[:60], 0, "free")), Book(tuple(facts[:60]), (), "free"))
        self.assertEqual(decode_book(code(66, 1, facts[:1], 0, "free")).facts, ("aa",))

    def test_lengths_and_letters(self):
        for wrong in (0, 9, 27, 255):
            self.assert_parts(2, 66, 1, wrong, 1, 1, 0, "free")
            self.assert_parts(10, 66, 1, "late", 1, 1, 1, wrong, 1, 0, 0, 0, "free")
            self.assert_parts(8, 66, 1, "late", 1, wrong, 1, 1, 1, 0, 0, 0, "free")
            self.assert_parts(8, 66, 1, "late", 0, wrong, 1)
        for wrong in (0, 27, 255):
            self.assert_parts(4, 66, 1, 2, 1, wrong, 0, "free")
            self.assert_parts(9, 66, 1, "late", 1, 1, wrong, "x", 0, 0, 0, "free")
            self.assert_parts(12, 66, 1, "late", 1, "r", 2, 1, wrong, 0, 0, 0, "free")
            self.assert_parts(10, 66, 1, "late", 0, 2, 1, wrong)
        book = decode_book(code(66, 1, "abcdefgh", 1, simple("z"), "z"))
        self.assertEqual((book.facts, book.names, book.ruling), (("abcdefgh",), ["z"], "z"))

    def test_facts_that_do_not_rise(self):
        items = code(66, 3, "bb", "c", "bb", 0, "free")
        self.assert_wrong(items, 7)
        # The name is read before it is compared.
        self.assert_wrong(items[:9], 9)
        self.assert_wrong(code(66, 3, "bb", "c", 2, 2, 0), 9)
        self.assert_wrong(code(66, 2, "c", "c", 0, "free"), 4)
        self.assert_wrong(code(66, 2, "c", "b", 0, "free"), 4)
        self.assert_wrong(code(66, 2, "ca", "c", 0, "free"), 5)
        self.assertEqual(decode_book(code(66, 2, "c", "ca", 0, "free")).facts, ("c", "ca"))

    def test_names_that_are_there_already(self):
        start = [66, 1, "l", 2, simple("r", 1), simple("s", 0)]
        at = len(code(*start)) - 1
        self.assertEqual(decode_book(code(*start, simple("rr"), "free")).names, ["r", "s", "rr"])
        for name in ("r", "s"):
            self.assert_wrong(code(*start, simple(name), "free"), at)
            self.assert_wrong(code(*start, name), at)
            self.assert_wrong(code(*start, name)[:-2], at + 1)
        self.assert_wrong(code(66, 1, "l", 1, simple("r", 1), simple("r"), "free"), 12)
        self.assertEqual(decode_book(code(66, 1, "l", 1, simple("l"), "l")).names, ["l"])

    def test_forty_outermost_rules_and_forty_one(self):
        rules = [part for name in many_facts(41) for part in simple(name)]
        self.assertEqual(len(decode_book(code(66, 1, "l", 40, rules[:200], "free"))), 40)
        self.assert_parts(4, 66, 1, "l", 41, rules, "free")
        self.assert_parts(4, 66, 1, "l", 255, "free")

    def test_facts_of_a_condition(self):
        facts = list("abcdefghij")
        start = [66, 10, facts, 1, "r", "x"]
        at = len(code(*start)) - 1
        for holding in range(9):
            part = list(range(holding))
            rest = list(range(holding, 8))
            book = decode_book(code(*start, holding, part, 8 - holding, rest, 0, "free"))
            self.assertEqual(book["r"].condition, Condition(tuple(facts[:holding]), tuple(facts[holding:8])))
            self.assert_parts(at + 1 + holding, *start, holding, part, 9 - holding, rest + [8], 0)
        self.assert_parts(at, *start, 9, list(range(9)), 0, 0)
        self.assert_parts(at + 1, *start, 0, 9, list(range(9)), 0)
        self.assert_parts(at + 1, *start, 0, 255, 0)

    def test_places(self):
        start = [66, 4, list(FACTS), 1, "r", "x"]
        at = len(code(*start)) - 1
        for wrong in (4, 5, 255):
            self.assert_parts(at + 1, *start, 1, wrong, 0, 0)
            self.assert_parts(at + 2, *start, 2, 3, wrong, 0, 0)
            self.assert_parts(at + 2, *start, 0, 1, wrong, 0)
        self.assert_parts(at + 2, *start, 2, 1, 1, 0, 0)
        self.assert_parts(at + 2, *start, 2, 1, 0, 0, 0)
        self.assert_parts(at + 3, *start, 0, 2, 2, 2, 0)
        self.assert_parts(at + 3, *start, 0, 2, 2, 1, 0)
        self.assert_parts(at + 3, *start, 1, 1, 1, 1, 0)
        self.assert_parts(at + 4, *start, 1, 1, 2, 0, 1, 0)
        self.assert_parts(at + 4, *start, 2, 1, 3, 1, 3, 0)
        book = decode_book(code(*start, 2, 1, 3, 2, 0, 2, 0, "free"))
        self.assertEqual(book["r"].condition, Condition(("late", "paid"), ("first", "owns")))

    def test_rules_within_five_others(self):
        deep = [part for name in "abcde" for part in simple(name, 1)]
        start = [66, 1, "l", 1, deep, "f", "x", 0, 0]
        at = len(code(*start)) - 1
        self.assertEqual(decode_book(code(*start, 0, "free")).rules[0].depth, 6)
        for wrong in (1, 2, 54, 255):
            self.assert_parts(at, *start, wrong, simple("g"))

    def test_sixty_rules_and_more(self):
        names = many_facts(61)
        rules = [part for name in names[1:60] for part in simple(name)]
        start = [66, 1, "l", 1, "aa", "x", 0, 0]
        at = len(code(*start)) - 1
        self.assertEqual(len(decode_book(code(*start, 59, rules, "free"))), 60)
        self.assert_parts(at, *start, 60, rules, simple(names[60]))
        # All rules of which the number has been told count, also those that are not read yet.
        start = [66, 1, "l", 40, "aa", "x", 0, 0]
        at = len(code(*start)) - 1
        self.assert_parts(at, *start, 21, rules)
        self.assertEqual(len(decode_book(code(*start, 20, rules, "free"))), 60)
        inner = [*start, 10, simple(names[1])[:-1]]
        at = len(code(*inner)) - 1
        self.assert_parts(at, *inner, 11, rules)
        self.assertEqual(len(decode_book(code(*inner, 10, rules[5:], "free"))), 60)

    def test_checksums(self):
        for book in (statute_book(), example_book()):
            items = encode_book(book)
            for wrong in [number for number in range(256) if number != items[-1]]:
                self.assert_wrong(items[:-1] + [wrong], len(items) - 1)
            for more in (0, items[-1], None, True, "x", 300):
                self.assert_wrong(items + [more], len(items))
                self.assert_wrong(items + [more, 1], len(items))

    def test_booleans_for_checksums(self):
        found = 0
        for letter in "abcdefghijklmnopqrstuvwxyz":
            for more in "abcdefghijklmnopqrstuvwxyz":
                items = encode_book(Book(("late",), (), letter + more))
                if items[-1] in (0, 1):
                    self.assertEqual(decode_book(items).ruling, letter + more)
                    self.assert_wrong(items[:-1] + [items[-1] == 1], len(items) - 1)
                    found += 1
        self.assertGreater(found, 1)

    def test_all_are_errors_of_the_package(self):
        with self.assertRaises(CourtError):
            decode_book([])


if __name__ == "__main__":
    unittest.main()
