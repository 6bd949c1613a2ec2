"""Books compared, and the rules of a book compared with those beside them."""

from smallcourt.books import Book, replaced
from smallcourt.cubes import clash, cube_of, joined
from smallcourt.errors import OtherFacts
from smallcourt.facts import names_of
from smallcourt.lines import lines_of
from smallcourt.outcomes import free_prices
from smallcourt.position import next_beside
from smallcourt.prices import NEVER, Prices
from smallcourt.sides import any_unlike, cheapest_unlike, merged_lines, unlike_parts, unlike_weight
from smallcourt.tally import plain_tally


def first_unlike(book, other):
    """Return the first case that two books rule otherwise, or None."""
    parts = parts_between(book, other)
    # By these prices, the price of a case is its number.
    prices = Prices([1 << place for place in range(len(book.facts))])
    number = cheapest_unlike(prices, parts)
    return names_of(book.facts, number) if number < NEVER else None


def unlike_count(book, other):
    """Return how many cases two books rule otherwise."""
    parts = parts_between(book, other)
    return unlike_weight(plain_tally(book), parts)


def alike(book, other):
    """Tell whether two books rule all cases alike."""
    return book == other or not any_unlike(free_prices(book), parts_between(book, other))


def parts_between(book, other):
    """Return the parts of the cases that two books rule otherwise."""
    if book.facts != other.facts:
        raise OtherFacts("the facts of the books are not the same")
    return unlike_parts(merged_lines(lines_of(book), lines_of(other)), book.ruling, other.ruling)


def clashes(book):
    """Return the list of all (name, other, case) of rules beside each other that rule the case unlike."""
    return clashes_within(book.facts, book.rules, (0, 0))


def clashes_within(facts, rules, around):
    """Return the same for rules that stand within others; `around` is the cube that meets all of those."""
    found = []
    for index, rule in enumerate(rules):
        own = joined(cube_of(facts, rule.condition), around)
        for other in rules[index + 1:]:
            both = joined(own, cube_of(facts, other.condition))
            if rule.ruling != other.ruling and not clash(both, both):
                found.append((rule.name, other.name, names_of(facts, both[0])))
        found.extend(clashes_within(facts, rule.exceptions, own))
    return found


def swapped(book, name):
    """Return the book in which a rule and the next one beside it have changed places."""
    neighbor = next_beside(book, name)
    others = replaced(book.rules, neighbor.name, ())
    return Book(book.facts, replaced(others, name, (neighbor, book[name])), book.ruling)
