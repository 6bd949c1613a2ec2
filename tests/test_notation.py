import unittest

from smallcourt.books import Book, Rule
from smallcourt.conditions import Condition
from smallcourt.errors import CourtError, InvalidText, NotWritable
from smallcourt.notation import format_book, parse_book
from tests.helpers import FACTS, many_facts
from tests.makers import BookMaker, example_book, nested_book, rule, small_books, statute_book
from tests.plain_texts import RESERVED, Fault, plain_parse, plain_text

TEXT = "facts first late paid\nlate is fine if late not paid\n> mild is warn if first\nelse free"


def drawn_books():
    return small_books(401, 150) + [nested_book(seed, 1 + seed % 6, 2 + seed % 12) for seed in range(100)]


def depth_of(book):
    return max([one.depth for one in book.rules], default=0)


class FormatTest(unittest.TestCase):
    def test_drawn_books(self):
        depths, kinds = [], set()
        for book in drawn_books():
            text = format_book(book)
            self.assertEqual(text, plain_text(book))
            self.assertEqual(parse_book(text), book)
            depths.append(depth_of(book))
            kinds |= {(bool(book[name].condition.holding), bool(book[name].condition.failing)) for name in book.names}
        self.assertEqual((set(depths), len(kinds)), ({0, 1, 2, 3, 4, 5, 6}, 4))

    def test_rows(self):
        self.assertEqual(format_book(statute_book()), TEXT)
        deep = rule("e", (), ("first", "late"), "y", (rule("f"), rule("g", ("first", "owns"), ("late", "paid"))))
        book = Book(FACTS, (rule("a"), rule("b", ("owns",), (), "x", (rule("c"), rule("d", exceptions=(deep,)))), rule("h")), "n")
        self.assertEqual(format_book(book), "\n".join([
            "facts first late owns paid", "a is free", "b is x if owns", "> c is free", "> d is free",
            "> > e is y not first late", "> > > f is free", "> > > g is free if first owns not late paid", "h is free",
            "else n",
        ]))
        self.assertEqual(parse_book(format_book(book)), book)

    def test_books_without_rules(self):
        self.assertEqual(format_book(Book(("late",), (), "free")), "facts late\nelse free")
        self.assertEqual(parse_book("facts late\nelse free"), Book(("late",), (), "free"))

    def test_words_that_are_not_reserved(self):
        book = Book(("court", "so"), (rule("always", ("so",), (), "no"), rule("fact", (), ("court",), "ifs")), "elses")
        self.assertEqual(parse_book(format_book(book)), book)


class NotWritableTest(unittest.TestCase):
    def assert_not(self, book, index):
        with self.assertRaises(NotWritable) as caught:
            format_book(book)
        self.assertEqual(caught.exception.index, index)

    def test_each_word(self):
        for word in RESERVED:
            facts = tuple(sorted(("late", word)))
            wrong = rule(word, (), (), word)
            self.assert_not(Book((word,), (), "free"), -1)
            self.assert_not(Book(facts, (wrong,), word), -1)
            self.assert_not(Book(("late",), (), word), 60)
            self.assert_not(Book(("late",), (rule(word),), word), 0)
            self.assert_not(Book(("late",), (rule("a", (), (), word),), word), 0)
            rules = (rule("a"), rule("b", exceptions=(rule("c"), wrong, rule("d", (), (), word))), rule("e", (), (), word))
            self.assert_not(Book(("late",), rules, word), 3)
            self.assert_not(Book(("late",), rules[:1] + rules[2:], "free"), 1)
            self.assert_not(Book(("late",), rules[:1], word), 60)

    def test_the_first_of_several(self):
        words = many_facts(59)
        rules = tuple(rule("a" + word) for word in words[:39])
        last = rule("z", exceptions=tuple(rule("b" + word) for word in words[:19]) + (rule("not"),))
        self.assert_not(Book(("late",), rules + (last,), "if"), 59)
        self.assert_not(Book(("late",), rules[:-1] + (rule("q", (), (), "else"), last), "if"), 38)

    def test_the_book_stays_as_it_was(self):
        book = example_book()
        format_book(book)
        self.assertEqual(book, example_book())


class TextMaker(BookMaker):
    """Changes texts in some words and rows."""

    def word(self, rows):
        words = [word for row in rows for word in row]
        return self.random.choice(words + [*RESERVED, ">", "", "Late", "l1", "ninechars", "zoo", "eightest", "late\t"])

    def changed_row(self, rows):
        """Changes a word of a row, leaves it out, doubles it, exchanges it with another one, or puts one in."""
        row = self.random.choice(rows)
        at = self.random.randrange(len(row)) if row else 0
        kind = self.random.choice(("change", "leave", "double", "put", "swap", "end"))
        if kind == "end":
            row.append(self.word(rows))
        elif kind == "put" or not row:
            row.insert(at, self.word(rows))
        elif kind == "change":
            row[at] = self.word(rows)
        elif kind == "leave":
            del row[at]
        elif kind == "double":
            row.insert(at, row[at])
        else:
            other = self.random.randrange(len(row))
            row[at], row[other] = row[other], row[at]

    def changed_rows(self, rows):
        """Leaves a row out, doubles it, exchanges it with another one, or puts it at the end."""
        at, other = self.random.randrange(len(rows)), self.random.randrange(len(rows))
        kind = self.random.choice(("leave", "double", "swap", "end", "empty"))
        if kind == "leave":
            del rows[at]
        elif kind == "double":
            rows.insert(other, list(rows[at]))
        elif kind == "swap":
            rows[at], rows[other] = rows[other], rows[at]
        elif kind == "end":
            rows.append(list(rows[at]))
        else:
            rows.insert(at, [])

    def changed(self, text):
        rows = [row.split(" ") for row in text.split("\n")]
        for _ in range(self.random.choice((1, 1, 1, 2, 3))):
            if rows and self.random.random() < 0.75:
                self.changed_row(rows)
            elif rows:
                self.changed_rows(rows)
        return "\n".join(" ".join(row) for row in rows)


class ParseTest(unittest.TestCase):
    def test_changed_texts(self):
        maker = TextMaker(403)
        faults, books = set(), 0
        for book in drawn_books():
            for _ in range(30):
                text = maker.changed(format_book(book))
                try:
                    expected = plain_parse(text)
                except Fault as fault:
                    faults.add((fault.row, fault.word))
                    with self.assertRaises(InvalidText, msg=text) as caught:
                        parse_book(text)
                    self.assertEqual((caught.exception.row, caught.exception.word), (fault.row, fault.word), text)
                else:
                    books += 1
                    self.assertEqual(parse_book(text), expected)
                    self.assertEqual(plain_parse(format_book(expected)), expected)
        self.assertGreater(books, 100)
        self.assertGreater(len(faults), 60)


class InvalidTextTest(unittest.TestCase):
    def assert_wrong(self, text, row, word):
        with self.assertRaises(InvalidText, msg=text) as caught:
            parse_book(text)
        self.assertEqual((caught.exception.row, caught.exception.word), (row, word), text)

    def assert_rule(self, row, word, before="late is fine if late not paid"):
        """A wrong word in row 2, behind a rule."""
        for behind in ("\nelse free", "\nelse free\nelse", "\nwrong\nelse free", ""):
            self.assert_wrong(f"facts first late owns paid\n{before}\n{row}{behind}", 2, word)

    def test_the_first_words(self):
        for word in ("", "fact", "facts,", "Facts", "else", "late", ">"):
            self.assert_wrong(f"{word} late\nelse free", 0, 0)
        self.assert_wrong("else free", 0, 0)
        self.assert_wrong("\nfacts late\nelse free", 0, 0)
        self.assert_wrong("facts late\nfacts late\nelse free", 1, 0)
        self.assert_wrong("facts late\nels free", 1, 1)
        self.assert_wrong("facts late\nElse free", 1, 0)

    def test_facts(self):
        for word in (*RESERVED, "", ">", "Late", "ninechars", "l1", "late\r", "\u00e9t\u00e9"):
            self.assert_wrong(f"facts {word}\nelse free", 0, 1)
            self.assert_wrong(f"facts a b {word} c\nelse", 0, 3)
        self.assert_wrong("facts\nelse free", 0, 1)
        self.assert_wrong("facts", 0, 1)
        self.assert_wrong("facts late late\nelse free", 0, 2)
        self.assert_wrong("facts a c b\nelse free", 0, 3)

    def test_sixty_facts_and_sixty_one(self):
        facts = many_facts(62)
        text = " ".join(("facts",) + facts[:60])
        self.assertEqual(parse_book(text + "\nelse free"), Book(facts[:60], (), "free"))
        self.assert_wrong(f"{text} {facts[60]}\nelse free", 0, 61)
        self.assert_wrong(f"{text} {facts[60]} {facts[61]}\nelse free", 0, 61)
        self.assert_wrong(f"{text} Zoo\nelse free", 0, 61)
        self.assert_wrong(text, 1, 0)

    def test_names_and_rulings(self):
        for word in (*RESERVED, "", ">", "Late", "ninechars", "l1"):
            self.assert_rule(f"> {word} is warn", 1)
            if word not in ("else", ">"):
                self.assert_rule(f"{word} is warn", 0)
            self.assert_rule(f"mild is {word}", 2)
            self.assert_rule(f"> mild is {word} if first", 3)
            self.assert_wrong(f"facts late\nelse {word}", 1, 1)
            self.assert_wrong(f"facts late\nmild is x\nelse {word} free", 2, 1)
        self.assert_rule("> else free", 1)

    def test_names_of_earlier_rules(self):
        self.assert_rule("late is warn", 0)
        self.assert_rule("> late is warn", 1)
        self.assert_wrong("facts late\na is x\n> b is x\n> > c is x\nd is y\n> b is z\nelse free", 5, 1)
        self.assertEqual(parse_book("facts late\nlate is late if late\nelse late").names, ["late"])

    def test_words_between(self):
        for word in ("", "are", "Is", "if", "not", ">", "late"):
            self.assert_rule(f"mild {word} warn", 1)
            self.assert_rule(f"> mild {word} warn", 2)
        for word in ("", "is", "else", "If", "first", ">", "facts"):
            self.assert_rule(f"mild is warn {word} first", 3)
            self.assert_rule(f"mild is warn {word}", 3)

    def test_signs(self):
        self.assert_wrong("facts late\n> mild is warn\nelse free", 1, 0)
        self.assert_wrong("facts late\n> > mild is warn\nelse free", 1, 0)
        self.assert_rule("> > mild is warn", 1)
        self.assert_rule("> > > mild is warn", 1)
        self.assert_rule("> >", 1)
        self.assert_rule(">", 1)
        self.assert_rule("mild > is warn", 1)
        rows = ["facts late"] + ["> " * depth + f"{'abcdef'[depth]} is x" for depth in range(6)]
        self.assertEqual(parse_book("\n".join(rows + ["else free"])).rules[0].depth, 6)
        self.assert_wrong("\n".join(rows + ["> > > > > > g is x", "else free"]), 7, 5)
        self.assert_wrong("\n".join(rows + ["> > > > > > > g is x", "else free"]), 7, 5)
        self.assert_wrong("\n".join(rows[:4] + ["> > > > g is x", "else free"]), 4, 3)
        self.assertEqual(parse_book("\n".join(rows + ["> > > > > g is x", "> h is x", "else free"])).names, list("abcdefgh"))
        self.assert_wrong("\n".join(rows + ["> h is x", "> > > i is x", "else free"]), 8, 2)

    def test_facts_of_rules(self):
        self.assert_rule("mild is warn if zoo", 4)
        self.assert_rule("mild is warn not zoo", 4)
        self.assert_rule("mild is warn if first fine", 5)
        self.assert_rule("mild is warn if owns late", 5)
        self.assert_rule("mild is warn if owns owns", 5)
        self.assert_rule("mild is warn if first not owns late", 7)
        self.assert_rule("mild is warn if first owns not late owns", 8)
        self.assert_rule("mild is warn if first not first", 6)
        self.assert_rule("mild is warn if first if late", 5)
        self.assert_rule("mild is warn not first not late", 5)
        self.assert_rule("mild is warn not first if late", 5)
        self.assert_rule("> mild is warn if first not late else", 8)

    def test_signs_of_parts_without_a_fact(self):
        self.assert_rule("mild is warn if", 4)
        self.assert_rule("mild is warn not", 4)
        self.assert_rule("> mild is warn if first not", 7)
        self.assert_rule("mild is warn if not late", 4)
        self.assert_rule("mild is warn if not", 4)
        self.assert_rule("mild is warn if if late", 4)
        self.assert_rule("mild is warn not not late", 4)
        self.assert_rule("mild is warn not if late", 4)

    def test_eight_facts_of_a_rule_and_nine(self):
        facts = "abcdefghij"
        top = "facts " + " ".join(facts) + "\n"
        for holding in range(9):
            parts = [facts[:holding], facts[holding:8]]
            told = "".join(f" {word} {' '.join(part)}" for word, part in zip(("if", "not"), parts) if part)
            book = parse_book(f"{top}r is x{told}\nelse n")
            self.assertEqual(book["r"].condition, Condition(tuple(parts[0]), tuple(parts[1])))
            wrong = f"r is x{told}{'' if parts[1] else ' not'} i"
            self.assert_wrong(f"{top}{wrong}\nelse n", 1, len(wrong.split(" ")) - 1)
            self.assert_wrong(f"{top}{wrong} j\nelse n", 1, len(wrong.split(" ")) - 1)
            self.assert_wrong(f"{top}{wrong[:-1]}zoo\nelse n", 1, len(wrong.split(" ")) - 1)
        self.assert_wrong(f"{top}r is x if {' '.join(facts[:9])}\nelse n", 1, 12)

    def test_sixty_rules_and_sixty_one(self):
        names = ["r" + name for name in many_facts(61)]
        rows = ["facts late", f"{names[0]} is x"] + [f"> {name} is x" for name in names[1:60]]
        self.assertEqual(parse_book("\n".join(rows + ["else free"])).names, names[:60])
        for wrong in (f"> {names[60]} is x", f"{names[60]} is x", "> > > late", ">", "", "facts", f"> {names[0]} is x", "elses free"):
            self.assert_wrong("\n".join(rows + [wrong, "else free"]), 61, 0)
        self.assert_wrong("\n".join(rows), 61, 0)
        self.assert_wrong("\n".join(rows + ["else if"]), 61, 1)

    def test_forty_outermost_rules_and_forty_one(self):
        names = ["r" + name for name in many_facts(41)]
        rows = ["facts late"]
        for name in names[:40]:
            rows.append(f"{name} is x")
            if len(rows) % 4 == 2:
                rows.append(f"> q{name[1:]} is x")
        book = parse_book("\n".join(rows + ["else free"]))
        self.assertEqual([one.name for one in book.rules], names[:40])
        for wrong in (f"{names[40]} is x", "late", "", f"{names[0]} is y", "facts"):
            self.assert_wrong("\n".join(rows + [wrong, "else free"]), len(rows), 0)
        self.assertEqual(len(parse_book("\n".join(rows + ["> late is x", "else free"]))), len(rows))
        self.assert_wrong("\n".join(rows + ["> > > late is x", "else free"]), len(rows), 1 if rows[-1][0] != ">" else 2)

    def test_rows_behind_the_last_one(self):
        for row in ("", "else free", "facts late", "mild is warn", " ", "court"):
            self.assert_wrong(f"facts late\nelse free\n{row}", 2, 0)
            self.assert_wrong(f"facts late\nelse free\n{row}\n{row}", 2, 0)
        self.assert_wrong(TEXT + "\n", 4, 0)
        self.assert_wrong("facts late\nelse free more\n", 1, 2)

    def test_missing_words_and_rows(self):
        words = "> mild is warn if first not owns".split(" ")
        for count in (1, 2, 3, 5, 7):
            self.assert_rule(" ".join(words[:count]), count)
        for count in (4, 6, 8):
            row = " ".join(words[:count])
            self.assertEqual(len(parse_book(f"facts first owns\na is x\n{row}\nelse n")), 2)
        self.assert_wrong("facts late\nelse", 1, 1)
        self.assert_wrong("facts late", 1, 0)
        self.assert_wrong("facts late\nmild is warn", 2, 0)
        self.assert_wrong("facts late\nmild is warn\n> other is warn", 3, 0)

    def test_superfluous_words(self):
        self.assert_wrong("facts late\nelse free free", 1, 2)
        self.assert_wrong("facts late\nelse free ", 1, 2)
        self.assert_rule("mild is warn warn", 3)

    def test_spaces(self):
        self.assert_wrong("", 0, 0)
        self.assert_wrong(" ", 0, 0)
        self.assert_wrong("\n", 0, 0)
        self.assert_wrong(" facts late\nelse free", 0, 0)
        self.assert_wrong("facts late \nelse free", 0, 2)
        self.assert_wrong("facts  late\nelse free", 0, 1)
        self.assert_wrong("facts late\n\nelse free", 1, 0)
        self.assert_wrong("facts late\n else free", 1, 0)
        self.assert_wrong("facts late\nelse  free", 1, 1)
        self.assert_wrong("facts late\r\nelse free", 0, 1)
        self.assert_wrong("facts\tlate\nelse free", 0, 0)
        self.assert_rule(" mild is warn", 0)
        self.assert_rule("mild  is warn", 1)
        self.assert_rule("mild is warn ", 3)
        self.assert_rule("mild is warn if  first", 4)
        self.assert_rule("mild is warn if first  late", 5)
        self.assert_rule("mild is warn if first ", 5)
        self.assert_rule("mild is warn if ", 4)
        self.assert_rule(">  mild is warn", 1)
        self.assert_rule("> ", 1)
        self.assert_rule("", 0)

    def test_the_first_of_several_faults(self):
        self.assert_wrong("facts late Late\n> mild if warn\nelse", 0, 2)
        self.assert_wrong("facts late\n> mild if warn\nelse", 1, 0)
        self.assert_wrong("facts late\nmild if warn zoo\nelse", 1, 1)
        self.assert_wrong("facts late\nmild is warn\nelse\nmore", 2, 1)

    def test_all_are_errors_of_the_package(self):
        for call in (lambda: parse_book(""), lambda: format_book(Book(("is",), (), "free"))):
            with self.assertRaises(CourtError):
                call()

    def test_books_of_changed_rows(self):
        self.assertEqual(parse_book(TEXT), statute_book())
        changed = TEXT.replace("> mild", "mild")
        self.assertEqual(parse_book(changed).names, ["late", "mild"])
        self.assertEqual(parse_book(changed).rules[1], Rule("mild", Condition(("first",), ()), "warn", ()))


if __name__ == "__main__":
    unittest.main()
