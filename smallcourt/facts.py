"""Facts, cases, and the numbers of cases."""

from smallcourt.errors import InvalidCase, InvalidFacts, InvalidNumber
from smallcourt.names import is_integer, is_name, rises

MOST_FACTS = 60


def case_number(facts, case):
    """Return the number of a case: the sum of 2 ** place over the facts that hold."""
    check_facts(facts)
    check_case(facts, case)
    return bits_of(facts, case)


def case_of(facts, number):
    """Return the case with a number."""
    check_facts(facts)
    if not is_integer(number) or not 0 <= number < 1 << len(facts):
        raise InvalidNumber("no case has this number")
    return names_of(facts, number)


def check_facts(facts):
    """Raise InvalidFacts unless facts are 1 to 60 names in ascending order."""
    if not facts:
        raise InvalidFacts(0)
    for index, name in enumerate(facts):
        if index == MOST_FACTS or not is_name(name) or not rises(facts, index):
            raise InvalidFacts(index)


def check_case(facts, case):
    """Raise InvalidCase unless a case consists of facts in ascending order."""
    for index, name in enumerate(case):
        if name not in facts or not rises(case, index):
            raise InvalidCase(index)


def is_case(facts, value):
    """Tell whether a value of any kind is a case."""
    if not isinstance(value, tuple):
        return False
    try:
        check_case(facts, value)
    except InvalidCase:
        return False
    return True


def bits_of(facts, names):
    """Return the sum of 2 ** place over the facts that are among the names."""
    return sum([1 << place for place, name in enumerate(facts) if name in names])


def names_of(facts, bits):
    """Return the ascending tuple of the facts whose places have a bit in a number."""
    return tuple([name for place, name in enumerate(facts) if (bits >> place) & 1])
