"""Live courts for the tests: rows of operations, and a plain reader of them that shares no code with the program."""

from smallcourt.errors import InvalidBook, InvalidCase, InvalidLabel, NoNeighbor, UnknownLabel, UnknownRule
from smallcourt.live import LiveCourt
from tests.makers import AmendmentMaker, beside_and_around, plain_amended, read
from tests.plain_texts import plain_name

LABELS = ("ann", "bob", "cid", "dan", "eve")


class Refused(Exception):
    """What a plain court raises: the class of the error that a live court has to raise."""

    def __init__(self, kind):
        super().__init__(kind)
        self.kind = kind


def refusal(book, amendment):
    """The class of the error of an amendment of the right form that cannot be made."""
    names = beside_and_around(book)
    if amendment[1] is not None and amendment[1] not in names:
        return UnknownRule
    if amendment[0] == "swap" and names[amendment[1]][0][-1] == amendment[1]:
        return NoNeighbor
    return InvalidBook


def is_plain_case(facts, case):
    return list(case) == sorted(set(case)) and set(case) <= set(facts)


class PlainCourt:
    """Keeps a row of all states: tuples (operation, book, judged) behind each operation."""

    def __init__(self, book):
        self.row = [(None, book, ())]
        self.undone = []

    def state(self):
        """What a live court must tell: the book, the judged cases, the stale labels and the history."""
        _, book, judged = self.row[-1]
        stale = [label for label, case, ruling, _ in judged if read(book, case)[0] != ruling]
        return book, list(judged), stale, [operation for operation, _, _ in self.row[1:]]

    def play(self, operation):
        if operation[0] == "undo":
            if len(self.row) == 1:
                return False
            self.undone.append(self.row.pop())
            return True
        if operation[0] == "redo":
            if not self.undone:
                return False
            self.row.append(self.undone.pop())
            return True
        result, book, judged = self.after(*operation)
        self.row.append((operation, book, tuple(judged)))
        self.undone = []
        return result

    def after(self, word, first, case=None):
        """The result of an operation, and what there is behind it."""
        _, book, judged = self.row[-1]
        if word == "amend":
            changed = plain_amended(book, first)
            if changed is None:
                raise Refused(refusal(book, first))
            return [one[0] for one in judged if read(book, one[1])[0] != read(changed, one[1])[0]], changed, judged
        labels = [one[0] for one in judged]
        if word == "judge":
            if not plain_name(first) or first in labels:
                raise Refused(InvalidLabel)
            if not is_plain_case(book.facts, case):
                raise Refused(InvalidCase)
            told = judged_plainly(book, first, case)
            return told[2], book, judged + (told,)
        if first not in labels:
            raise Refused(UnknownLabel)
        place = labels.index(first)
        old = judged[place]
        if word == "drop":
            return old[2], book, judged[:place] + judged[place + 1:]
        told = judged_plainly(book, first, old[1])
        return told[2] != old[2], book, judged[:place] + (told,) + judged[place + 1:]


def judged_plainly(book, label, case):
    ruling, way, _ = read(book, case)
    return label, case, ruling, way[-1] if way else None


def state_of(court):
    return court.book, court.judged, court.stale(), court.history


class OperationMaker(AmendmentMaker):
    """Makes operations, some of which are refused."""

    def case(self, facts):
        case = tuple(name for name in facts if self.random.random() < 0.5)
        return case[::-1] if self.random.random() < 0.1 else case

    def operation(self, book, words=("amend", "amend", "judge", "judge", "judge", "renew", "renew", "drop")):
        word = self.random.choice(words)
        if word == "amend":
            return word, self.amendment(book)
        if word in ("undo", "redo"):
            return (word,)
        label = self.random.choice(LABELS)
        return (word, label, self.case(book.facts)) if word == "judge" else (word, label)

    def row(self, book, count, words):
        """Operations one after another of which none is refused, and the plain court behind them."""
        plain = PlainCourt(book)
        made = []
        while len(made) < count:
            operation = self.operation(plain.row[-1][1], words)
            try:
                plain.play(operation)
            except Refused:
                continue
            made.append(operation)
        return made, plain


def do(court, operation):
    """Call the method of an operation."""
    return getattr(court, operation[0])(*operation[1:])


def court_behind(book, operations):
    court = LiveCourt(book)
    for operation in operations:
        do(court, operation)
    return court
