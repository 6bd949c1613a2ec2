"""Rules with exceptions, and books of them."""

from smallcourt.errors import InvalidBook, InvalidRule, UnknownRule
from smallcourt.facts import check_case, check_facts
from smallcourt.names import is_name
from smallcourt.walk import looked_into

MOST_OUTERMOST = 40
MOST_RULES = 60
MOST_AROUND = 5


class Rule:
    """A name, a condition, a ruling, and a tuple of rules that are the exceptions."""

    def __init__(self, name, condition, ruling, exceptions):
        if not is_name(name):
            raise InvalidRule("name")
        if not is_name(ruling):
            raise InvalidRule("ruling")
        self._name = name
        self._condition = condition
        self._ruling = ruling
        self._exceptions = exceptions
        self._depth = 1 + max([0] + [rule.depth for rule in exceptions])
        self._inside = [name] + [rule.name for rule, _ in nested(exceptions, 1)]

    @property
    def name(self):
        """The name of the rule."""
        return self._name

    @property
    def condition(self):
        """The condition that a case must meet."""
        return self._condition

    @property
    def ruling(self):
        """The ruling of the cases that the rule decides."""
        return self._ruling

    @property
    def exceptions(self):
        """The tuple of the rules that are its exceptions."""
        return self._exceptions

    @property
    def depth(self):
        """1 without exceptions, otherwise one more than the greatest depth of these."""
        return self._depth

    def __len__(self):
        return len(self._inside)

    def __eq__(self, other):
        return (isinstance(other, Rule) and self._name == other._name and self._condition == other._condition
                and self._ruling == other._ruling and self._exceptions == other._exceptions)


class Book:
    """Facts, a tuple of rules, and the ruling of the cases that no rule decides."""

    def __init__(self, facts, rules, ruling):
        check_facts(facts)
        check_rules(facts, rules)
        if not is_name(ruling):
            raise InvalidBook("ruling", -1)
        self._facts = facts
        self._rules = rules
        self._ruling = ruling
        self._numbered = [rule for rule, _ in nested(rules, 0)]

    @property
    def facts(self):
        """The ascending tuple of the facts."""
        return self._facts

    @property
    def rules(self):
        """The tuple of the outermost rules."""
        return self._rules

    @property
    def ruling(self):
        """The ruling of the cases that no rule decides."""
        return self._ruling

    @property
    def names(self):
        """The list of the names of all rules, by their numbers."""
        return [rule.name for rule in self._numbered]

    @property
    def rulings(self):
        """The ascending list of all rulings that stand in the book, each once."""
        return sorted(set([self._ruling] + [rule.ruling for rule in self._numbered]))

    def __len__(self):
        return len(self._numbered)

    def __contains__(self, name):
        return any([rule.name == name for rule in self._numbered])

    def __getitem__(self, name):
        for rule in self._numbered:
            if rule.name == name:
                return rule
        raise UnknownRule("the book has no rule with this name")

    def __iter__(self):
        raise TypeError("a book cannot be iterated over")

    def __sub__(self, name):
        """Return the book without a rule and all of its exceptions."""
        if name not in self:
            raise UnknownRule("the book has no rule with this name")
        return Book(self._facts, replaced(self._rules, name, ()), self._ruling)

    def __eq__(self, other):
        return (isinstance(other, Book) and self._facts == other._facts and self._rules == other._rules
                and self._ruling == other._ruling)

    def __call__(self, case):
        """Return the ruling of a case."""
        check_case(self._facts, case)
        way = looked_into(self._rules, case)
        return way[-1].ruling if way else self._ruling


def nested(rules, around):
    """Return all rules by their numbers, each as a tuple with the number of rules within which it stands."""
    found = []
    for rule in rules:
        found.append((rule, around))
        found.extend(nested(rule.exceptions, around + 1))
    return found


def check_rules(facts, rules):
    """Raise InvalidBook for the first wrong rule, by number."""
    names = []
    outermost = 0
    for index, (rule, around) in enumerate(nested(rules, 0)):
        if around == 0:
            outermost = outermost + 1
        if rule.name in names:
            raise InvalidBook("name", index)
        if any([name not in facts for name in rule.condition.names]):
            raise InvalidBook("condition", index)
        if around > MOST_AROUND:
            raise InvalidBook("depth", index)
        if index == MOST_RULES or outermost > MOST_OUTERMOST:
            raise InvalidBook("many", index)
        names.append(rule.name)


def replaced(rules, name, others):
    """Return a tuple of rules in which others stand in the place of the one with the name, wherever that is."""
    made = []
    for rule in rules:
        if rule.name == name:
            made.extend(others)
        else:
            inner = replaced(rule.exceptions, name, others)
            made.append(Rule(rule.name, rule.condition, rule.ruling, inner))
    return tuple(made)
