"""Facts, names and cases for the tests; nothing here shares code with the program."""

from itertools import combinations

NOT_NAMES = (
    0, 1, True, False, None, 1.5, (), ("late",), [], ["late"], "", "ninechars", "Late", "l1", "l-", "\u00e9t\u00e9", "a\n",
)
FACTS = ("first", "late", "owns", "paid")


def letters(number):
    """A name of two letters for a number below 676; they ascend with the numbers."""
    return chr(97 + number // 26) + chr(97 + number % 26)


def many_facts(count):
    return tuple(letters(number) for number in range(count))


def all_cases(facts):
    """All cases in the order of their numbers."""
    found = []
    for number in range(2 ** len(facts)):
        found.append(tuple(name for place, name in enumerate(facts) if number // 2 ** place % 2))
    return found


def holds_for(condition, case):
    return set(condition.holding) <= set(case) and not set(condition.failing) & set(case)


def subsets(names):
    """All tuples of some of the names, the shorter ones first, then in tuple order."""
    for size in range(len(names) + 1):
        yield from combinations(names, size)


def flipped(facts, case, names):
    """The case with these facts turned."""
    return tuple(name for name in facts if (name in case) != (name in names))
