"""All cases of a book: how many have each ruling, which these are, and how much a fact matters."""

from math import gcd

from smallcourt.errors import InvalidChance, InvalidNumber, UnknownFact, UnknownRule
from smallcourt.facts import bits_of, check_case, names_of
from smallcourt.lines import check_ruling, cubes_of, lines_of, narrowed_lines, rows_of, ruling_at
from smallcourt.names import is_integer
from smallcourt.outcomes import deciding_names, free_prices, ruling_weight, weights_by_ruling
from smallcourt.sides import any_unlike, turned_parts, unlike_weight
from smallcourt.tally import Tally, plain_tally

MOST_CASES = 2 ** 60
MOST_NUMBERS = 10000
GREATEST_BELOW = 100


def counts(book):
    """Return a dict from all rulings of a book, ascending, to the numbers of cases that have them."""
    return weights_by_ruling(plain_tally(book), lines_of(book), book.ruling, book.rulings)


def decided_by(book, name):
    """Return how many cases a rule decides; for None, how many no rule decides."""
    rows = rows_of(book)
    tally = plain_tally(book)
    if name is None:
        return tally.none_met(cubes_of(rows))
    if name not in book:
        raise UnknownRule("the book has no rule with this name")
    deciding = [index for index, (_, rule) in enumerate(rows) if rule.name == name]
    return sum([tally.first_met(cubes_of(rows), index) for index in deciding])


def idle_rules(book):
    """Return the list of the names of all rules, by their numbers, that decide no case."""
    deciding = deciding_names(free_prices(book), rows_of(book))
    return [name for name in book.names if name not in deciding]


def nth_case(book, ruling, number):
    """Return the case with a number, from 0, among those with a ruling, or None."""
    check_ruling(book, ruling)
    if not is_integer(number) or not 0 <= number <= MOST_CASES:
        raise InvalidNumber("the number is not from 0 to 2 ** 60")
    tally = plain_tally(book)
    lines = lines_of(book)
    if number >= ruling_weight(tally, lines, book.ruling, ruling):
        return None
    found = 0
    known = 1
    for place in reversed(range(len(book.facts))):
        known = known * 2
        fails = narrowed_lines(lines, (0, 1 << place))
        many = ruling_weight(tally, fails, book.ruling, ruling) // known
        if number < many:
            lines = fails
        else:
            number -= many
            found += 1 << place
            lines = narrowed_lines(lines, (1 << place, 0))
    return names_of(book.facts, found)


def rank(book, case):
    """Return the number of a case, from 0, among those with its ruling."""
    check_case(book.facts, case)
    ruling = book(case)
    tally = plain_tally(book)
    lines = lines_of(book)
    many = 0
    known = 1
    for place, name in reversed(list(enumerate(book.facts))):
        known = known * 2
        fails = narrowed_lines(lines, (0, 1 << place))
        if name in case:
            many += ruling_weight(tally, fails, book.ruling, ruling) // known
            lines = narrowed_lines(lines, (1 << place, 0))
        else:
            lines = fails
    return many


def cases(book, ruling, first, last):
    """Yield all cases with a ruling with numbers from a first to a last one, both included."""
    check_ruling(book, ruling)
    check_numbers(first, last)
    lines = lines_of(book)
    for number in range(first, min(last + 1, 1 << len(book.facts))):
        if ruling_at(lines, book.ruling, number) == ruling:
            yield names_of(book.facts, number)


def check_numbers(first, last):
    """Raise InvalidNumber unless two numbers are the ends of a range of numbers of cases."""
    if not is_integer(first) or not is_integer(last) or not 0 <= first <= last <= MOST_CASES:
        raise InvalidNumber("the numbers are not from 0 to 2 ** 60, or the last one is less")
    if last - first >= MOST_NUMBERS:
        raise InvalidNumber("there are more than 10,000 numbers")


def swing(book, fact):
    """Return in how many cases the ruling turns if a fact is turned alone."""
    if fact not in book.facts:
        raise UnknownFact("the book has no such fact")
    # The fact itself is free in these lines, so that both cases of each pair are counted.
    return unlike_weight(plain_tally(book), turned_parts(lines_of(book), book.ruling, bits_of(book.facts, (fact,))))


def idle_facts(book):
    """Return the ascending list of the facts that turn the ruling of no case."""
    lines = lines_of(book)
    free = free_prices(book)
    bits = [(fact, bits_of(book.facts, (fact,))) for fact in book.facts]
    return [fact for fact, bit in bits if not any_unlike(free, turned_parts(lines, book.ruling, bit))]


def share(book, ruling, chances):
    """Return how likely a case has a ruling, as a fraction in lowest terms."""
    check_ruling(book, ruling)
    check_chances(book, chances)
    weights = [(1, 1) for _ in book.facts]
    for place, fact in enumerate(book.facts):
        if fact in chances:
            above, below = chances[fact]
            weights[place] = (above, below - above)
    tally = Tally(weights)
    weight = ruling_weight(tally, lines_of(book), book.ruling, ruling)
    common = gcd(weight, tally.total)
    return weight // common, tally.total // common


def check_chances(book, chances):
    """Raise UnknownFact for keys that are no facts, then InvalidChance for the first wrong pair."""
    if any([fact not in book.facts for fact in chances]):
        raise UnknownFact("the book has no such fact")
    for fact, pair in chances.items():
        if not is_chance(pair):
            raise InvalidChance(fact)


def is_chance(pair):
    """Tell whether a value of any kind is a pair (above, below) with above from 0 to below from 1 to 100."""
    if not isinstance(pair, tuple) or len(pair) != 2:
        return False
    above, below = pair
    return is_integer(above) and is_integer(below) and 1 <= below <= GREATEST_BELOW and 0 <= above <= below
