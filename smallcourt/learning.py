"""Small learning: books that rule examples, tuples (case, ruling)."""

from smallcourt.books import Book, Rule
from smallcourt.conditions import Condition
from smallcourt.errors import InvalidExample, InvalidFacts, InvalidNumber
from smallcourt.facts import check_facts, is_case
from smallcourt.names import is_integer, is_name

MOST_FACTS = 8
MOST_EXAMPLES = 40
RULE_NAMES = ("a", "b", "c")
RULING_WITHOUT_EXAMPLES = "none"


def first_misfit(book, examples):
    """Return the index of the first example that a book rules otherwise, or None."""
    check_examples(book.facts, examples, len(examples))
    for index, (case, ruling) in enumerate(examples):
        if book(case) != ruling:
            return index
    return None


def least_book(facts, examples, most):
    """Return the first of the books with the fewest rules, of one name each, that rule all examples, or None."""
    check_few_facts(facts)
    check_examples(facts, examples, MOST_EXAMPLES)
    if not is_integer(most) or not 0 <= most <= len(RULE_NAMES):
        raise InvalidNumber("the number is not from 0 to 3")
    if not examples:
        return Book(facts, (), RULING_WITHOUT_EXAMPLES)
    conditions = conditions_of_one(facts)
    for count in range(most + 1):
        rows = first_rows(conditions, examples, count)
        if rows:
            rules = [Rule(name, condition, told, ()) for name, (condition, told) in zip(RULE_NAMES, rows[:-1])]
            return Book(facts, tuple(rules), rows[-1][1])
    return None


def conditions_of_one(facts):
    """Return the list of all conditions of one name, by the name, a holding one before a failing one."""
    found = []
    for name in facts:
        found.extend([Condition((name,), ()), Condition((), (name,))])
    return found


def first_rows(conditions, examples, count):
    """Return the first list of so many tuples (condition, ruling), and one with None for all other cases.

    By these, all examples are ruled. The list is empty if there is none. Fewer rows must not do: then each row
    rules an example that no earlier one rules, so that its ruling is that of this example.
    """
    rulings = rulings_in(examples)
    if count == 0:
        return [(None, rulings[0])] if len(rulings) == 1 else []
    for condition in conditions:
        met = rulings_in([example for example in examples if condition(example[0])])
        if len(met) == 1 and len(rulings) > 1:
            others = first_rows(conditions, [example for example in examples if not condition(example[0])], count - 1)
            if others:
                return [(condition, met[0])] + others
    return []


def rulings_in(examples):
    """Return the ascending list of the rulings of examples, each once."""
    return sorted(set([ruling for _, ruling in examples]))


def check_few_facts(facts):
    """Raise InvalidFacts unless facts are one to eight names in ascending order."""
    check_facts(facts[:MOST_FACTS])
    if len(facts) > MOST_FACTS:
        raise InvalidFacts(MOST_FACTS)


def check_examples(facts, examples, most):
    """Raise InvalidExample for the first wrong example, or the first one behind the most that there can be."""
    for index, example in enumerate(examples):
        if index == most or not is_example(facts, example):
            raise InvalidExample(index)


def is_example(facts, value):
    """Tell whether a value of any kind is an example."""
    return isinstance(value, tuple) and len(value) == 2 and is_case(facts, value[0]) and is_name(value[1])
