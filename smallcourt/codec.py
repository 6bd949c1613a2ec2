"""Books as lists of small integers."""

from smallcourt.books import MOST_AROUND, MOST_OUTERMOST, MOST_RULES, Book, Rule
from smallcourt.conditions import MOST_NAMES, Condition
from smallcourt.errors import DecodeError
from smallcourt.facts import MOST_FACTS
from smallcourt.names import LETTERS, LONGEST_NAME, is_integer

FIRST_NUMBER = 66
CHECKSUM_BEGIN = 7
CHECKSUM_FACTOR = 11
CHECKSUM_RANGE = 247


def encode_book(book):
    """Return the list of the numbers of a book."""
    numbers = [FIRST_NUMBER, len(book.facts)]
    for fact in book.facts:
        numbers.extend(numbers_of_name(fact))
    numbers.extend(numbers_of_rules(book.facts, book.rules) + numbers_of_name(book.ruling))
    return numbers + [checksum(numbers)]


def numbers_of_name(name):
    """Return the list of the numbers of a name."""
    return [len(name)] + [LETTERS.index(letter) + 1 for letter in name]


def numbers_of_rules(facts, rules):
    """Return the list of the number of some rules, and of the numbers of these."""
    numbers = [len(rules)]
    for rule in rules:
        numbers.extend(numbers_of_name(rule.name) + numbers_of_name(rule.ruling))
        for part in (rule.condition.holding, rule.condition.failing):
            numbers.extend([len(part)] + [facts.index(name) for name in part])
        numbers.extend(numbers_of_rules(facts, rule.exceptions))
    return numbers


def checksum(numbers):
    """Return the checksum behind some numbers."""
    told = CHECKSUM_BEGIN
    for number in numbers:
        told = (CHECKSUM_FACTOR * told + number) % CHECKSUM_RANGE
    return told


def decode_book(values):
    """Return the book of a list of numbers."""
    reader = Reader(values)
    reader.take(FIRST_NUMBER, FIRST_NUMBER)
    facts = reader.take_facts()
    rules = reader.take_rules(facts, 0)
    ruling = reader.take_name()
    right = checksum(values[:reader.at])
    reader.take(right, right)
    if reader.at < len(values):
        raise DecodeError(reader.at)
    return Book(facts, rules, ruling)


class Reader:
    """Reads numbers of a list from the first to the last."""

    def __init__(self, numbers):
        self.numbers = list(numbers)
        self.at = 0
        self.rule_names = []
        # The rules of which the number has been read, whether or not they themselves have been.
        self.rule_count = 0

    def take(self, least, most):
        """Read the next item, which must be an integer in a range, and return it."""
        if self.at == len(self.numbers):
            raise DecodeError(self.at)
        number = self.numbers[self.at]
        if not is_integer(number) or not least <= number <= most:
            raise DecodeError(self.at)
        self.at += 1
        return number

    def take_name(self):
        """Read a name, and return it."""
        length = self.take(1, LONGEST_NAME)
        return "".join([LETTERS[self.take(1, len(LETTERS)) - 1] for _ in range(length)])

    def take_facts(self):
        """Read the facts, and return the tuple of these."""
        facts = []
        for _ in range(self.take(1, MOST_FACTS)):
            begin = self.at
            fact = self.take_name()
            if facts and fact <= facts[-1]:
                raise DecodeError(begin)
            facts.append(fact)
        return tuple(facts)

    def take_rules(self, facts, around):
        """Read rules that stand within so many others, and return the tuple of these."""
        most = 0
        if around == 0:
            most = MOST_OUTERMOST
        elif around <= MOST_AROUND:
            most = MOST_RULES - self.rule_count
        count = self.take(0, most)
        self.rule_count += count
        return tuple([self.take_rule(facts, around) for _ in range(count)])

    def take_rule(self, facts, around):
        """Read a rule that stands within so many others, and return it."""
        begin = self.at
        name = self.take_name()
        if name in self.rule_names:
            raise DecodeError(begin)
        self.rule_names.append(name)
        ruling = self.take_name()
        holding = self.take_part(facts, ())
        failing = self.take_part(facts, holding)
        return Rule(name, Condition(holding, failing), ruling, self.take_rules(facts, around + 1))

    def take_part(self, facts, taken):
        """Read a part of a condition, and return the tuple of its facts; `taken` are those of the part before it."""
        part = []
        least = 0
        for _ in range(self.take(0, MOST_NAMES - len(taken))):
            begin = self.at
            place = self.take(least, len(facts) - 1)
            if facts[place] in taken:
                raise DecodeError(begin)
            part.append(facts[place])
            least = place + 1
        return tuple(part)
