import unittest

from smallcourt.daybooks import Daybook
from smallcourt.errors import CourtError, DaybookError
from smallcourt.live import LiveCourt
from tests.courts import LABELS, OperationMaker, PlainCourt, Refused, state_of
from tests.helpers import many_facts
from tests.makers import BookMaker, read, small_books, statute_book
from tests.plain_texts import RESERVED, Fault, plain_name, plain_parse, plain_text

TEXT = "facts first late paid\nlate is fine if late not paid\n> mild is warn if first\nelse free"
FIRST_ROW = 5
# The fewest and the most words behind the first one of an entry.
FORMS = {
    "judge": (1, 99), "strike": (1, 1), "swap": (1, 1), "ruling": (2, 2), "renew": (1, 1), "drop": (1, 1), "undo": (0, 0),
    "look": (2, 2),
}
RIGHT = {
    "judge": "judge ann late", "strike": "strike late", "swap": "swap late", "ruling": "ruling late x", "renew": "renew ann",
    "drop": "drop ann", "undo": "undo", "look": "look ann x",
}


def plain_entries(rows, begin):
    for row in range(begin, len(rows)):
        words = rows[row].split(" ")
        if row == begin + 200 or words[0] not in FORMS:
            raise Fault(row, 0)
        least, most = FORMS[words[0]]
        for at in range(1, max(len(words), least + 1)):
            if at >= len(words) or at > most or not plain_name(words[at]):
                raise Fault(row, at)
    return [row.split(" ") for row in rows[begin:]]


def plain_daybook(text):
    """The plain court at the end of a daybook, and the results; raises Fault."""
    rows = text.split("\n")
    if "court" not in rows:
        raise Fault(len(rows), 0)
    begin = rows.index("court") + 1
    court = PlainCourt(plain_parse("\n".join(rows[:begin - 1])))
    results = []
    for row, words in enumerate(plain_entries(rows, begin), begin):
        try:
            results += plain_entry(court, words)
        except Refused:
            raise Fault(row, 0) from None
    return court, "\n".join(results)


def plain_entry(court, words):
    """A list of the row that an entry adds to the results."""
    word, *names = words
    if word == "look":
        if not [one for one in court.state()[1] if [one[0], one[2]] == names]:
            raise Refused(None)
        return []
    if word == "judge":
        return [court.play(("judge", names[0], tuple(names[1:])))]
    if word in ("strike", "swap", "ruling"):
        if word == "ruling" and names[0] == "else":
            names[0] = None
        return [" ".join(court.play(("amend", (word, *names)))) or "-"]
    result = court.play((word, *names))
    return [{True: "yes", False: "no"}.get(result, result)]


class DaybookMaker(OperationMaker):
    def entry(self, plain):
        """The row of an entry, which is mostly not refused by a court."""
        book, judged, _, _ = plain.state()
        word = self.random.choice(("judge", "judge", "judge", "strike", "swap", "ruling", "ruling", "renew", "drop", "undo", "look"))
        if word == "judge":
            return " ".join(("judge", self.random.choice(LABELS)) + self.case(book.facts))
        if word == "look":
            label, _, ruling, _ = self.random.choice(judged or [("ann", (), "a", None)])
            return f"look {label} {ruling if self.random.random() < 0.9 else 'zoo'}"
        if word in ("renew", "drop"):
            return f"{word} {self.random.choice([one[0] for one in judged] or ['ann'])}"
        name = self.random.choice(book.names or ["else"])
        if word == "ruling":
            return f"ruling {self.random.choice((name, name, 'else'))} {self.random.choice('abcd')}"
        return word if word == "undo" else f"{word} {name}"

    def rows(self, book, count):
        """The rows of entries that no court refuses."""
        plain, found = PlainCourt(book), []
        while len(found) < count:
            row = self.entry(plain)
            try:
                plain_entry(plain, row.split(" "))
            except Refused:
                continue
            found.append(row)
        return found

    def spoiled(self, rows):
        """Rows of which one or two are changed in a word, or are other ones."""
        changed = [row.split(" ") for row in rows]
        for _ in range(self.random.randint(1, 2)):
            row = self.random.choice(changed)
            at = self.random.randrange(len(row) + 1)
            word = self.random.choice([*FORMS, *RESERVED, *LABELS, "", "court", "Late", "zoo", "ninechars", "a", "ash", ">"])
            kind = self.random.choice(("change", "put", "leave", "row"))
            if kind == "put":
                row.insert(at, word)
            elif kind == "row":
                changed.insert(self.random.randrange(len(changed) + 1), self.random.choice((["court"], [word], list(row))))
            elif row and kind == "leave":
                del row[at - 1]
            elif row:
                row[at - 1] = word
        return [" ".join(row) for row in changed]


class DaybookTest(unittest.TestCase):
    def assert_fault(self, text, row, word):
        with self.assertRaises(DaybookError, msg=text) as caught:
            Daybook(text)
        self.assertEqual((caught.exception.row, caught.exception.word), (row, word), text)

    def assert_entries(self, entries, row, word):
        """A fault in an entry: the row counts from the first entry."""
        self.assert_fault("\n".join([TEXT, "court", *entries]), FIRST_ROW + row, word)

    def assert_plays(self, text):
        """Tells whether a daybook can be made."""
        try:
            plain, results = plain_daybook(text)
        except Fault as fault:
            self.assert_fault(text, fault.row, fault.word)
            return False
        daybook = Daybook(text)
        self.assertEqual(daybook.results, results)
        court = daybook.finish()
        self.assertIs(type(court), LiveCourt)
        for word in ["undo"] * 3 + ["redo"] * 9 + ["undo"] * 20:
            self.assertEqual(state_of(court), plain.state())
            self.assertIs(court.redo() if word == "redo" else court.undo(), plain.play((word,)))
        return True


class DrawnTest(DaybookTest):
    def test_drawn_daybooks(self):
        maker = DaybookMaker(441)
        for book in small_books(442, 120):
            rows = maker.rows(book, maker.random.randint(0, 15))
            self.assertTrue(self.assert_plays("\n".join([plain_text(book), "court", *rows])))

    def test_spoiled_entries(self):
        maker = DaybookMaker(443)
        right = wrong = 0
        for book in small_books(444, 150):
            rows = maker.rows(book, maker.random.randint(1, 10))
            for _ in range(6):
                played = self.assert_plays("\n".join([plain_text(book), "court", *maker.spoiled(rows)]))
                right += played
                wrong += not played
        self.assertGreater(right, 30)
        self.assertGreater(wrong, 400)

    def test_spoiled_books(self):
        maker = DaybookMaker(445)
        for book in small_books(446, 100):
            rows = maker.spoiled(plain_text(book).split("\n"))
            self.assert_plays("\n".join([*rows, "court", "judge ann", "undo", "undo"]))
            self.assert_plays("\n".join([*rows, "court", "judge", "undo"]))


class EntriesTest(DaybookTest):
    def results(self, *entries):
        text = "\n".join([TEXT, "court", *entries])
        self.assertTrue(self.assert_plays(text))
        return Daybook(text).results.split("\n")

    def test_no_entries(self):
        daybook = Daybook(f"{TEXT}\ncourt")
        self.assertEqual((daybook.results, state_of(daybook.finish())), ("", (statute_book(), [], [], [])))

    def test_judge(self):
        self.assertEqual(self.results("judge ann first late", "judge bob", "judge else late"), ["warn", "free", "fine"])

    def test_strike_swap_and_ruling(self):
        told = self.results("judge ann first late", "judge bob first late", "judge cid", "judge dan late", "strike mild",
                            "ruling late x", "ruling else y", "ruling else y", "undo", "undo", "strike late")
        self.assertEqual(told[4:], ["ann bob", "ann bob dan", "cid", "-", "yes", "yes", "ann bob dan"])
        text = "facts late\na is x\nb is y if late\nelse n\ncourt\njudge ann late\nswap a\nswap b\nrenew ann"
        self.assertEqual(Daybook(text).results, "x\nann\nann\nno")

    def test_renew_and_drop(self):
        told = self.results("judge ann first late", "renew ann", "strike mild", "look ann warn", "renew ann", "look ann fine",
                            "renew ann", "drop ann", "judge ann", "drop ann")
        self.assertEqual(told, ["warn", "no", "ann", "yes", "no", "fine", "free", "free"])

    def test_undo(self):
        told = self.results("undo", "judge ann late", "strike late", "undo", "undo", "undo", "judge ann")
        self.assertEqual(told, ["no", "fine", "ann", "yes", "yes", "no", "free"])
        court = Daybook(f"{TEXT}\ncourt\njudge ann\nstrike late\nundo").finish()
        self.assertEqual(court.history, [("judge", "ann", ())])
        self.assertIs(court.redo(), True)
        self.assertEqual(court.history[1:], [("amend", ("strike", "late"))])

    def test_history(self):
        court = Daybook(f"{TEXT}\ncourt\njudge ann late\nruling else x\nruling late y\nrenew ann\nlook ann y\ndrop ann").finish()
        self.assertEqual(court.history, [
            ("judge", "ann", ("late",)), ("amend", ("ruling", None, "x")), ("amend", ("ruling", "late", "y")), ("renew", "ann"),
            ("drop", "ann"),
        ])
        self.assertEqual((court.book.ruling, court.book["late"].ruling), ("x", "y"))

    def test_reserved_words_are_names_in_entries(self):
        told = self.results("judge if", "judge else", "judge court late", "ruling late else", "ruling else not", "look if free")
        self.assertEqual(told, ["free", "free", "fine", "court", "if else"])
        for row, names in (("strike else", ()), ("swap else", ()), ("judge ann is", ())):
            self.assert_entries([row], 0, 0)

    def test_looks(self):
        start = ["judge ann first late", "strike mild"]
        self.assertEqual(self.results(*start, "look ann warn"), ["warn", "ann"])
        self.assertEqual(self.results(*start, "look ann warn", "renew ann", "look ann fine", "look ann fine"), ["warn", "ann", "yes"])
        self.assert_entries([*start, "look ann fine"], 2, 0)
        self.assert_entries([*start, "renew ann", "look ann warn"], 3, 0)
        self.assert_entries([*start, "look bob warn"], 2, 0)
        self.assert_entries([*start, "drop ann", "look ann warn"], 3, 0)
        self.assert_entries(["look ann free"], 0, 0)


class FormTest(DaybookTest):
    def test_no_row_court(self):
        for text in ("", "facts late\nelse free", "\n\n", "court ann", "court ", " court", "Court\nelse", "facts\nzoo",
                     "facts late\nelse free\njudge ann", f"{TEXT}\ncourts\njudge", "else court"):
            self.assert_fault(text, len(text.split("\n")), 0)

    def test_faults_of_the_book(self):
        self.assert_fault("court", 0, 0)
        self.assert_fault("court\njudge", 0, 0)
        self.assert_fault("\ncourt", 0, 0)
        self.assert_fault("facts\ncourt\nzoo", 0, 1)
        self.assert_fault("facts late\ncourt\nelse free", 1, 0)
        self.assert_fault("facts late\nelse\ncourt\nzoo", 1, 1)
        self.assert_fault("facts late\nelse free\n\ncourt\nzoo", 2, 0)
        self.assert_fault(TEXT.replace("paid\n>", "if\n>") + "\ncourt\nzoo", 1, 6)
        self.assert_fault(f"{TEXT} free\ncourt\nzoo\nzoo", 3, 2)
        self.assert_fault("facts late\nlate is fine\ncourt", 2, 0)

    def test_the_first_row_court(self):
        self.assert_entries(["judge ann", "court", "zoo"], 1, 0)
        self.assert_entries(["court"], 0, 0)
        self.assert_fault("facts court\ncourt\nelse free\ncourt", 1, 0)

    def test_first_words(self):
        for word in ("", "zoo", "Judge", "amend", "redo", "else", "add", "before", "condition", "stale", "court", "look,", "undo\t"):
            for row in (word, f"{word} ann", f"{word} ann late"):
                self.assert_entries([row], 0, 0)
                self.assert_entries(["judge ann late", row, "zoo zoo", "renew zoo"], 1, 0)
        self.assert_entries([" undo"], 0, 0)

    def test_each_word(self):
        for word, row in RIGHT.items():
            words = row.split(" ")
            for at in range(1, len(words)):
                for wrong in ("", "Late", "ninechars", "l1", ">", "-", "late\t"):
                    self.assert_entries(["judge zed", " ".join(words[:at] + [wrong] + words[at + 1:])], 1, at)
                    self.assert_entries(["zoo", " ".join(words[:at] + [wrong] + words[at + 1:])], 0, 0)
                if word != "judge" or at == 1:
                    self.assert_entries(["judge zed", " ".join(words[:at]), "zoo"], 1, at)
            if word != "judge":
                self.assert_entries(["judge zed", f"{row} late", ""], 1, len(words))
                self.assert_entries(["judge zed", f"{row} ", ""], 1, len(words))
            self.assert_entries([f"{row}  late"], 0, len(words))

    def test_missing_words(self):
        for row, word in (("judge", 1), ("strike", 1), ("swap", 1), ("ruling", 1), ("ruling late", 2), ("ruling else", 2),
                          ("renew", 1), ("drop", 1), ("look", 1), ("look ann", 2)):
            self.assert_entries([row], 0, word)
        self.assert_fault(f"{TEXT}\ncourt\n", FIRST_ROW, 0)

    def test_facts_and_names_by_their_form_alone(self):
        # Each of these raises an error, but only behind the fault of form in the last row.
        for row in ("judge ann zoo", "judge ann late first", "judge ann late late", "strike zoo", "swap zoo", "swap late",
                    "ruling zoo x", "renew ann", "drop ann", "look ann x", "judge ann a b c d e f g h i j k l m n"):
            self.assert_entries([row, "undo", "look ann"], 2, 2)
            self.assert_entries([row, "undo", "look ann x"], 0, 0)
            self.assert_entries(["undo", row, "zoo"], 2, 0)
            self.assert_entries(["undo", row, row], 1, 0)

    def test_two_hundred_entries_and_more(self):
        entries = ["undo"] * 200
        self.assertEqual(Daybook("\n".join([TEXT, "court", *entries])).results, "\n".join(["no"] * 200))
        for more in ("undo", "", "zoo", "judge", "look ann x"):
            self.assert_entries(entries + [more], 200, 0)
            self.assert_entries(entries + [more, "zoo"], 200, 0)
            self.assert_entries(["look ann x"] + entries[1:] + [more], 200, 0)
            self.assert_entries(entries[:199] + ["undo late", more], 199, 1)

    def test_two_hundred_judged_cases(self):
        names = many_facts(200)
        entries = [f"judge {name} late" for name in names]
        daybook = Daybook("\n".join([TEXT, "court", *entries]))
        self.assertEqual((daybook.results, len(daybook.finish().judged)), ("\n".join(["fine"] * 200), 200))
        entries[199] = "strike late"
        self.assertEqual(Daybook("\n".join([TEXT, "court", *entries])).results.split("\n")[199], " ".join(names[:199]))

    def test_a_label_that_is_in_use(self):
        self.assert_entries(["judge ann", "judge bob", "judge ann late"], 2, 0)
        self.assert_entries(["judge ann", "drop ann", "judge ann", "drop ann", "drop ann"], 4, 0)

    def test_all_are_errors_of_the_package(self):
        with self.assertRaises(CourtError):
            Daybook("")


class FinishTest(DaybookTest):
    def test_courts_of_their_own(self):
        daybook = Daybook(f"{TEXT}\ncourt\njudge ann first late\nstrike mild\nundo")
        first, second = daybook.finish(), daybook.finish()
        before = state_of(second)
        self.assertEqual(state_of(first), before)
        first.apply_all([("redo",), ("drop", "ann"), ("amend", ("strike", "late"))])
        self.assertEqual(state_of(second), before)
        self.assertEqual(state_of(daybook.finish()), before)
        self.assertIs(second.redo(), True)
        self.assertEqual(state_of(daybook.finish()), before)
        self.assertEqual(daybook.results, "warn\nann\nyes")

    def test_results_are_those_of_the_book(self):
        maker = BookMaker(447)
        for book in small_books(448, 40):
            cases = [tuple(fact for fact in book.facts if maker.random.random() < 0.5) for _ in range(5)]
            entries = [" ".join(("judge", label) + case) for label, case in zip(LABELS, cases)]
            daybook = Daybook("\n".join([plain_text(book), "court", *entries]))
            self.assertEqual(daybook.results.split("\n"), [read(book, case)[0] for case in cases])
            self.assertEqual(daybook.finish().book, book)


if __name__ == "__main__":
    unittest.main()
