"""Reasons for rulings: which facts suffice for one, and which facts turn it."""

from smallcourt.conditions import MOST_NAMES, Condition
from smallcourt.cubes import cube_of
from smallcourt.errors import NoReason, TooMany
from smallcourt.facts import bits_of, check_case, names_of
from smallcourt.lines import check_ruling, lines_of, narrowed_lines, ruling_at
from smallcourt.outcomes import cheapest, free_prices, within_reach
from smallcourt.prices import NEVER, Prices

MOST_NAMED = 14
# More than the sum of all that is taken off the prices of facts, so that fewer facts are always cheaper.
ONE_FACT = 2 ** 60


def reason(book, case):
    """Return the reason for a case with the fewest names, of several the first one."""
    check_case(book.facts, case)
    named = named_facts(book)
    if len(named) > MOST_NAMED:
        raise TooMany("the conditions of the book name more than 14 facts")
    turns = turning_sets(book, case, named)
    everything = len(turns) - 1
    chosen = [(0, 0)]
    for _ in range(MOST_NAMES + 1):
        for bits, _ in chosen:
            if not turns[everything - bits]:
                return told_of(case, names_of(named, bits))
        chosen = one_longer(chosen, len(named))
    raise TooMany("no reason has eight names or fewer")


def is_reason(book, case, condition):
    """Tell whether a condition is a reason for a case."""
    check_case(book.facts, case)
    if any([name not in book.facts for name in condition.names]) or not condition(case):
        return False
    ruling = book(case)
    lines = narrowed_lines(lines_of(book), cube_of(book.facts, condition))
    return not within_reach(free_prices(book), lines, book.ruling, others_than(book, ruling))


def core(book, case, condition):
    """Return what remains of a reason without the names that it does not need, the last ones left out first."""
    if not is_reason(book, case, condition):
        raise NoReason("the condition is no reason for the case")
    for name in condition.names[::-1]:
        fewer = told_of(case, [kept for kept in condition.names if kept != name])
        if is_reason(book, case, fewer):
            condition = fewer
    return condition


def turn(book, case):
    """Return the fewest facts that turn the ruling of a case, and the ruling then, or None."""
    check_case(book.facts, case)
    return fewest_flips(book, case, others_than(book, book(case)))


def turn_to(book, case, ruling):
    """Return the fewest facts that turn the ruling of a case into this one, or None."""
    check_case(book.facts, case)
    check_ruling(book, ruling)
    found = fewest_flips(book, case, [ruling])
    return found[0] if found else None


def named_facts(book):
    """Return the ascending tuple of all facts that the conditions of a book name."""
    named = [name for rule in book.names for name in book[rule].condition.names]
    return tuple([fact for fact in book.facts if fact in named])


def turning_sets(book, case, named):
    """Return a list with an item for each set of the named facts, by the sum of 2 ** place over them.

    The item tells whether the ruling of the case can turn by a change of these facts or some of them.
    """
    lines = lines_of(book)
    flips = [0]
    for name in named:
        bit = bits_of(book.facts, (name,))
        flips = flips + [flip | bit for flip in flips]
    number = bits_of(book.facts, case)
    ruling = book(case)
    turns = [ruling_at(lines, book.ruling, number ^ flip) != ruling for flip in flips]
    for place in range(len(named)):
        bit = 1 << place
        turns = [turns[at] or ((at & bit) != 0 and turns[at - bit]) for at in range(len(turns))]
    return turns


def one_longer(chosen, many):
    """Return all sets with one more place below a number, in tuple order.

    A set is a tuple of the sum of 2 ** place over its places and the first place behind all of them.
    """
    return [(bits | (1 << place), place + 1) for bits, start in chosen for place in range(start, many)]


def told_of(case, names):
    """Return the condition that tells of a case whether the facts with these names hold."""
    holding = tuple([name for name in names if name in case])
    return Condition(holding, tuple([name for name in names if name not in case]))


def others_than(book, ruling):
    """Return the list of all other rulings of a book."""
    return [other for other in book.rulings if other != ruling]


def fewest_flips(book, case, wanted):
    """Return the fewest facts that turn a case into one with a wanted ruling, and this ruling, or None."""
    number = bits_of(book.facts, case)
    lines = [(turned(cube, number), ruling) for cube, ruling in lines_of(book)]
    # Less is taken off for each fact than for all behind it, so of equally many facts the first are cheapest.
    prices = [ONE_FACT - (ONE_FACT >> (place + 1)) for place in range(len(book.facts))]
    price, ruling = cheapest(Prices(prices), lines, book.ruling, wanted, NEVER)
    if price >= NEVER:
        return None
    taken_off = -price % ONE_FACT
    names = [name for place, name in enumerate(book.facts) if taken_off & (ONE_FACT >> (place + 1))]
    return tuple(names), ruling


def turned(cube, number):
    """Return the cube over the changes of facts that lead from the case with a number to cases that meet the cube."""
    holds = (cube[0] & ~number) | (cube[1] & number)
    return holds, (cube[0] | cube[1]) & ~holds
