"""The text and the code of a book as a plain reader of the document writes and reads them."""

from smallcourt.books import Book, Rule
from smallcourt.conditions import Condition

RESERVED = ("facts", "is", "if", "not", "else")


def plain_name(word):
    """Tells whether a word has one to eight letters a to z."""
    return word is not None and 1 <= len(word) <= 8 and all("a" <= sign <= "z" for sign in word)


def free_name(word):
    return plain_name(word) and word not in RESERVED


def numbered(book):
    """All rules by their numbers, each with the number of rules within which it stands."""
    found = []

    def walk(rules, around):
        for one in rules:
            found.append((one, around))
            walk(one.exceptions, around + 1)

    walk(book.rules, 0)
    return found


def plain_text(book):
    rows = ["facts"]
    for fact in book.facts:
        rows[0] += " " + fact
    for one, around in numbered(book):
        row = "> " * around + f"{one.name} is {one.ruling}"
        for word, names in (("if", one.condition.holding), ("not", one.condition.failing)):
            if names:
                row += f" {word} {' '.join(names)}"
        rows.append(row)
    return "\n".join([*rows, f"else {book.ruling}"])


class Fault(Exception):
    """A wrong word in the text of a book."""

    def __init__(self, row, word):
        super().__init__(row, word)
        self.row = row
        self.word = word


def plain_parse(text):
    """The book of a text; raises Fault."""
    rows = [row.split(" ") for row in text.split("\n")]
    facts = []
    for at, word in enumerate(rows[0]):
        if at == 0 and word != "facts":
            raise Fault(0, 0)
        if at > 0:
            if not free_name(word) or at == 61 or (facts and word <= facts[-1]):
                raise Fault(0, at)
            facts.append(word)
    if not facts:
        raise Fault(0, 1)
    told = []
    for row, words in enumerate(rows[1:], 1):
        if words[0] == "else":
            if not free_name(word_at(words, 1)):
                raise Fault(row, 1)
            if len(words) > 2:
                raise Fault(row, 2)
            if row + 1 < len(rows):
                raise Fault(row + 1, 0)
            return Book(tuple(facts), tree(told, 0), words[1])
        told.append(PlainRow(row, words, facts, told).read())
    raise Fault(len(rows), 0)


def word_at(words, at):
    return words[at] if at < len(words) else None


def tree(told, around):
    """The rules of rows that stand within so many others."""
    starts = [place for place, one in enumerate(told) if one[0] == around]
    made = []
    for start, end in zip(starts, starts[1:] + [len(told)]):
        _, name, holding, failing, ruling = told[start]
        condition = Condition(tuple(holding), tuple(failing))
        made.append(Rule(name, condition, ruling, tree(told[start + 1:end], around + 1)))
    return tuple(made)


class PlainRow:
    """Reads the row of a rule by going from state to state, word by word."""

    def __init__(self, row, words, facts, before):
        self.row, self.words, self.facts, self.before = row, words, facts, before
        self.around, self.name, self.ruling, self.holding, self.failing = 0, None, None, [], []

    def read(self):
        state = self.signs
        if len(self.before) == 60:
            raise Fault(self.row, 0)
        for at, word in enumerate(self.words + [None]):
            after = state(word)
            if after is None:
                raise Fault(self.row, at)
            state = after
        return self.around, self.name, self.holding, self.failing, self.ruling

    def signs(self, word):
        if word == ">":
            self.around += 1
            outer = self.before[-1][0] if self.before else -1
            return self.signs if self.around <= 5 and self.around <= outer + 1 else None
        if self.around == 0 and len([one for one in self.before if one[0] == 0]) == 40:
            return None
        self.name = word
        return self.verb if free_name(word) and word not in [one[1] for one in self.before] else None

    def verb(self, word):
        return self.verdict if word == "is" else None

    def verdict(self, word):
        self.ruling = word
        return self.behind if free_name(word) else None

    def behind(self, word):
        return {"if": self.first_holding, "not": self.first_failing, None: self.ended}.get(word)

    def ended(self, word):
        raise AssertionError("nothing stands behind the end")

    def fits(self, word, part):
        many = len(self.holding) + len(self.failing)
        return word in self.facts and word not in self.holding and many < 8 and (not part or part[-1] < word)

    def first_holding(self, word):
        if not self.fits(word, self.holding):
            return None
        self.holding.append(word)
        return self.more_holding

    def more_holding(self, word):
        if word in ("not", None):
            return self.behind(word)
        return self.first_holding(word)

    def first_failing(self, word):
        if not self.fits(word, self.failing):
            return None
        self.failing.append(word)
        return self.more_failing

    def more_failing(self, word):
        return self.ended if word is None else self.first_failing(word)


def plain_code(book):
    """The numbers of a book, the checksum included."""
    numbers = [66, len(book.facts)]

    def name(told):
        numbers.append(len(told))
        numbers.extend(ord(letter) - 96 for letter in told)

    def rules(beside):
        numbers.append(len(beside))
        for one in beside:
            name(one.name)
            name(one.ruling)
            for part in (one.condition.holding, one.condition.failing):
                numbers.append(len(part))
                numbers.extend(place for place, fact in enumerate(book.facts) if fact in part)
            rules(one.exceptions)

    for fact in book.facts:
        name(fact)
    rules(book.rules)
    name(book.ruling)
    return closed(numbers)


def closed(numbers):
    """Numbers with their checksum behind them."""
    total = 7
    for number in numbers:
        total = (total * 11 + number) % 247
    return [*numbers, total]
