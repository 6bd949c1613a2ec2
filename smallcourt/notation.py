"""The text of a book: rows of words that are separated by single spaces."""

from smallcourt.books import MOST_AROUND, MOST_OUTERMOST, MOST_RULES, Book, Rule, nested
from smallcourt.conditions import MOST_NAMES, Condition
from smallcourt.errors import InvalidText, NotWritable
from smallcourt.facts import MOST_FACTS
from smallcourt.names import is_name, rises
from smallcourt.words import Words

RESERVED = ("facts", "is", "if", "not", "else")
SIGN = ">"
NUMBER_OF_FACTS = -1
NUMBER_OF_BOOK = 60


def format_book(book):
    """Return the text of a book."""
    rules = nested(book.rules, 0)
    check_writable(book, [rule for rule, _ in rules])
    rows = [["facts"] + list(book.facts)]
    rows.extend([words_of(rule, around) for rule, around in rules])
    rows.append(["else", book.ruling])
    return "\n".join([" ".join(words) for words in rows])


def check_writable(book, rules):
    """Raise NotWritable if a reserved word is a fact, a name or a ruling; `rules` are all of the book."""
    if any([fact in RESERVED for fact in book.facts]):
        raise NotWritable(NUMBER_OF_FACTS)
    for index, rule in enumerate(rules):
        if rule.name in RESERVED or rule.ruling in RESERVED:
            raise NotWritable(index)
    if book.ruling in RESERVED:
        raise NotWritable(NUMBER_OF_BOOK)


def words_of(rule, around):
    """Return the list of the words of a rule; `around` is the number of rules within which it stands."""
    words = [SIGN] * around + [rule.name, "is", rule.ruling]
    if rule.condition.holding:
        words.extend(["if"] + list(rule.condition.holding))
    if rule.condition.failing:
        words.extend(["not"] + list(rule.condition.failing))
    return words


def parse_book(text):
    """Return the book of a text."""
    rows = [Words(row, line) for row, line in enumerate(text.split("\n"))]
    facts = read_facts(rows[0])
    told = []
    for words in rows[1:]:
        if words.ahead() == "else":
            break
        told.append(read_rule(words, facts, told))
    last = 1 + len(told)
    if last == len(rows):
        raise InvalidText(last, 0)
    ruling = read_ending(rows[last])
    if last + 1 < len(rows):
        raise InvalidText(last + 1, 0)
    return Book(facts, rules_told(told), ruling)


def read_facts(words):
    """Read the row of the facts, and return the tuple of these."""
    words.take(words.ahead() == "facts")
    facts = []
    while not facts or words.ahead() is not None:
        fact = words.ahead()
        right = is_free_name(fact) and rises(facts + [fact], len(facts)) and len(facts) < MOST_FACTS
        facts.append(words.take(right))
    return tuple(facts)


def read_ending(words):
    """Read the row behind the rules, and return the ruling of the book."""
    words.take(words.ahead() == "else")
    ruling = words.take(is_free_name(words.ahead()))
    words.check_end()
    return ruling


def read_rule(words, facts, before):
    """Read the row of a rule behind others, and return it as a tuple (around, name, condition, ruling)."""
    words.check(len(before) < MOST_RULES)
    around = read_signs(words, before)
    outermost = len([other for other, _, _, _ in before if other == 0])
    words.check(around > 0 or outermost < MOST_OUTERMOST)
    free = words.ahead() not in [other for _, other, _, _ in before]
    name = words.take(free and is_free_name(words.ahead()))
    words.take(words.ahead() == "is")
    ruling = words.take(is_free_name(words.ahead()))
    holding = read_part(words, "if", facts, ())
    failing = read_part(words, "not", facts, holding)
    words.check_end()
    return around, name, Condition(holding, failing), ruling


def read_signs(words, before):
    """Read the signs ahead of a rule behind others, and return in how many rules it stands."""
    most = min(before[-1][0] + 1, MOST_AROUND) if before else 0
    around = 0
    while words.ahead() == SIGN:
        words.take(around < most)
        around += 1
    return around


def read_part(words, word, facts, taken):
    """Read a part of a condition, which begins with a word if it is there, and return the tuple of its facts.

    `taken` are those of the part ahead of it.
    """
    found = []
    if words.ahead() == word:
        words.take(True)
        while not found or words.ahead() not in (None, "not"):
            fact = words.ahead()
            known = fact in facts and fact not in taken
            right = known and rises(found + [fact], len(found)) and len(taken) + len(found) < MOST_NAMES
            found.append(words.take(right))
    return tuple(found)


def rules_told(told):
    """Return the tuple of the outermost rules, of which all rules are told as `read_rule` returns them."""
    # From the last rule to the first: behind each number of rules around, those that wait for the rule around them.
    waiting = [[] for _ in range(MOST_AROUND + 2)]
    for around, name, condition, ruling in told[::-1]:
        exceptions = tuple(waiting[around + 1][::-1])
        waiting[around + 1] = []
        waiting[around].append(Rule(name, condition, ruling, exceptions))
    return tuple(waiting[0][::-1])


def is_free_name(word):
    """Tell whether a word, or None, is a name and none of the reserved words."""
    return is_name(word) and word not in RESERVED
