"""Conditions: which facts must hold and which must fail."""

from smallcourt.errors import InvalidCondition, NeverMet
from smallcourt.names import is_name, rises

MOST_NAMES = 8


class Condition:
    """What the cases meet in which all facts of one tuple hold and all of another one fail."""

    def __init__(self, holding, failing):
        check_part(0, holding, ())
        check_part(1, failing, holding)
        self._holding = holding
        self._failing = failing
        self._names = merged(holding, failing)

    @property
    def holding(self):
        """The ascending tuple of the facts that must hold."""
        return self._holding

    @property
    def failing(self):
        """The ascending tuple of the facts that must fail."""
        return self._failing

    @property
    def names(self):
        """The ascending tuple of all names of both."""
        return self._names

    def __call__(self, case):
        """Tell whether a case, any tuple of names, meets the condition."""
        held = all([name in case for name in self._holding])
        return held and not any([name in case for name in self._failing])

    def __len__(self):
        return len(self._names)

    def __and__(self, other):
        """Return the condition that is met by the cases that meet both."""
        holding = merged(self._holding, other.holding)
        failing = merged(self._failing, other.failing)
        if any([name in failing for name in holding]):
            raise NeverMet("a fact would have to hold and to fail")
        return Condition(holding, failing)

    def __eq__(self, other):
        return isinstance(other, Condition) and self._holding == other._holding and self._failing == other._failing

    def within(self, other):
        """Tell whether all cases, of any facts, that meet this condition meet the other one."""
        held = all([name in self._holding for name in other.holding])
        return held and all([name in self._failing for name in other.failing])


def check_part(part, names, before):
    """Raise InvalidCondition for the first wrong name of a part; `before` is the part ahead of it."""
    for index, name in enumerate(names):
        wrong = not is_name(name) or not rises(names, index)
        if wrong or len(before) + index >= MOST_NAMES or name in before:
            raise InvalidCondition(part, index)


def merged(names, others):
    """Return the ascending tuple of all names of two tuples, each once."""
    return tuple(sorted(list(names) + [name for name in others if name not in names]))
