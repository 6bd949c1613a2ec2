"""Live courts: a book that is amended, and the cases that are judged by it."""

from smallcourt.amendments import amended
from smallcourt.errors import InvalidLabel, InvalidOperation, UnknownLabel
from smallcourt.names import is_name
from smallcourt.ruling import outcome

# How many arguments belong to the name of an operation.
ARGUMENTS = {"amend": 1, "judge": 2, "renew": 1, "drop": 1, "undo": 0, "redo": 0}


class LiveCourt:
    """A book and a list of judged cases, with operations that can be undone."""

    def __init__(self, book):
        # A step is a tuple (operation, book, judged cases) of what was done and what there is behind it. The tuple
        # of the steps is never changed, only replaced, so that a trial can go back to the one of its beginning.
        self._steps = ((None, book, ()),)
        self._place = 0

    @property
    def book(self):
        """The present book."""
        return self._steps[self._place][1]

    @property
    def judged(self):
        """The list of tuples (label, case, ruling, decider), as they were judged or renewed last."""
        return list(self._steps[self._place][2])

    @property
    def history(self):
        """The list of all operations in effect, tuples of the name of the method and its arguments."""
        return [operation for operation, _, _ in self._steps[1:self._place + 1]]

    def stale(self):
        """Return the list of the labels of all judged cases that the present book rules otherwise."""
        book = self.book
        return [label for label, case, ruling, _ in self.judged if book(case) != ruling]

    def amend(self, amendment):
        """Amend the book, and return the list of the labels of all judged cases that it now rules otherwise."""
        before = self.book
        after = amended(before, amendment)
        self._go_on(("amend", amendment), after, self.judged)
        return [label for label, case, _, _ in self.judged if before(case) != after(case)]

    def judge(self, label, case):
        """Rule a case, add it to the list, and return its ruling."""
        if not is_name(label) or label in labels_of(self.judged):
            raise InvalidLabel("the label is no name, or is in use")
        told = judged_by(self.book, label, case)
        self._go_on(("judge", label, case), self.book, self.judged + [told])
        return told[2]

    def renew(self, label):
        """Rule a judged case anew by the present book, and return whether its ruling is another one."""
        judged = self.judged
        place = place_of(judged, label)
        _, case, ruling, _ = judged[place]
        judged[place] = judged_by(self.book, label, case)
        self._go_on(("renew", label), self.book, judged)
        return judged[place][2] != ruling

    def drop(self, label):
        """Take a case out of the list, and return its ruling."""
        judged = self.judged
        _, _, ruling, _ = judged.pop(place_of(judged, label))
        self._go_on(("drop", label), self.book, judged)
        return ruling

    def undo(self):
        """Undo the last operation that is in effect, and return whether there was one."""
        if self._place == 0:
            return False
        self._place -= 1
        return True

    def redo(self):
        """Execute the operation that was undone last once more, and return whether there was one."""
        if self._place + 1 == len(self._steps):
            return False
        # What an operation does is told by what there was before it, so its step is as it would be made anew.
        self._place += 1
        return True

    def apply_all(self, operations):
        """Execute all of a list of operations, or none if one raises an error, and return the list of their results."""
        for index, operation in enumerate(operations):
            if not is_operation(operation):
                raise InvalidOperation(index)
        results = []
        with Trial(self) as trial:
            for operation in operations:
                results.append(executed(self, operation))
            trial.keep()
        return results

    def tried(self, operations, keep):
        """Execute a list of operations as a trial, and return the list of their results."""
        with Trial(self) as trial:
            results = self.apply_all(operations)
            if keep:
                trial.keep()
        return results

    @classmethod
    def replay(cls, book, operations):
        """Return a live court with a book after a list of operations."""
        court = cls(book)
        court.apply_all(operations)
        return court

    def _go_on(self, operation, book, judged):
        """Add a step behind those in effect; those that were undone are gone."""
        self._place += 1
        self._steps = self._steps[:self._place] + ((operation, book, tuple(judged)),)


class Trial:
    """A context manager: behind its block, a court is as it was before, unless it is told to keep what was done."""

    def __init__(self, court):
        self._court = court
        self._steps = ()
        self._place = 0
        # None, not False, as long as nothing is to be kept: the end of a block may only ask whether it is None.
        self._kept = None

    def __enter__(self):
        self._steps = self._court._steps
        self._place = self._court._place
        self._kept = None
        return self

    def __exit__(self, kind, value, trace):
        if self._kept is None:
            self._court._steps = self._steps
            self._court._place = self._place

    def keep(self):
        """Keep what is done in the block."""
        self._kept = True


def labels_of(judged):
    """Return the list of the labels of judged cases."""
    return [label for label, _, _, _ in judged]


def place_of(judged, label):
    """Return the place of the judged case with a label."""
    labels = labels_of(judged)
    if label not in labels:
        raise UnknownLabel("no judged case has this label")
    return labels.index(label)


def judged_by(book, label, case):
    """Return the tuple (label, case, ruling, decider) of a case as a book rules it."""
    return (label, case) + outcome(book, case)


def is_operation(value):
    """Tell whether a value of any kind is the name of an operation with the right number of arguments."""
    if not isinstance(value, tuple) or not value or not isinstance(value[0], str):
        return False
    return value[0] in ARGUMENTS and len(value) == 1 + ARGUMENTS[value[0]]


def executed(court, operation):
    """Execute an operation, and return its result."""
    word = operation[0]
    if word == "amend":
        return court.amend(operation[1])
    if word == "judge":
        return court.judge(operation[1], operation[2])
    if word == "renew":
        return court.renew(operation[1])
    if word == "drop":
        return court.drop(operation[1])
    return court.undo() if word == "undo" else court.redo()
