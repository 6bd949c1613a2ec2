"""The exceptions of the package, all of them direct subclasses of CourtError."""


class CourtError(ValueError):
    """The base class of all exceptions of the package."""


class InvalidFacts(CourtError):
    """Facts that are no ascending tuple of 1 to 60 names."""

    def __init__(self, index):
        super().__init__(f"wrong fact at index {index}")
        self.index = index


class InvalidCase(CourtError):
    """A case that is no ascending tuple of facts."""

    def __init__(self, index):
        super().__init__(f"wrong name in the case at index {index}")
        self.index = index


class InvalidNumber(CourtError):
    """What is no integer, or not in the range that is asked for."""


class InvalidCondition(CourtError):
    """A condition with a wrong name: part 0 or 1, and the index in this part."""

    def __init__(self, part, index):
        super().__init__(f"wrong name in part {part} of the condition at index {index}")
        self.part = part
        self.index = index


class NeverMet(CourtError):
    """Two conditions that no case meets both."""


class InvalidRule(CourtError):
    """A rule of which the name or the ruling is no name."""

    def __init__(self, part):
        super().__init__(f"wrong {part} of a rule")
        self.part = part


class InvalidBook(CourtError):
    """A book with a wrong rule or ruling: a word for the fault, and the number of the rule."""

    def __init__(self, word, index):
        super().__init__(f"wrong book by {word} at index {index}")
        self.word = word
        self.index = index


class UnknownRule(CourtError):
    """What is not the name of a rule of the book."""


class InvalidRuling(CourtError):
    """What is no ruling, or none of the book."""


class UnknownFact(CourtError):
    """What is not one of the facts."""


class NoReason(CourtError):
    """A condition that is no reason for the case."""


class TooMany(CourtError):
    """More facts, rules, names or days than a function is made for."""


class InvalidChance(CourtError):
    """A pair that is no chance, with the fact to which it belongs."""

    def __init__(self, fact):
        super().__init__(f"wrong chance of {fact}")
        self.fact = fact


class OtherFacts(CourtError):
    """Two books with unlike facts."""


class NoNeighbor(CourtError):
    """A rule that is the last one beside others."""


class NoFacts(CourtError):
    """A book of which no facts would remain."""


class AlreadyKnown(CourtError):
    """A fact that is known already."""


class InvalidAmendment(CourtError):
    """What is no amendment."""


class InvalidStatute(CourtError):
    """A statute with a wrong dated amendment at an index."""

    def __init__(self, index):
        super().__init__(f"wrong amendment at index {index}")
        self.index = index


class InvalidDay(CourtError):
    """What is no day."""


class InvalidSpan(CourtError):
    """A wrong span of days, with the name of its rule."""

    def __init__(self, rule_name):
        super().__init__(f"wrong span of {rule_name}")
        self.rule_name = rule_name


class InvalidDocket(CourtError):
    """A docket with a wrong book or entry: the part, and the index in it."""

    def __init__(self, part, index):
        super().__init__(f"wrong {part} of a docket at index {index}")
        self.part = part
        self.index = index


class UnknownLabel(CourtError):
    """What is not the label of an entry or a judged case."""


class InvalidLabel(CourtError):
    """A label that is no name, or that is in use."""


class InvalidOperation(CourtError):
    """What is no operation of a live court, with its index."""

    def __init__(self, index):
        super().__init__(f"wrong operation at index {index}")
        self.index = index


class Contradiction(CourtError):
    """An observation after which no candidate would remain."""


class InvalidExample(CourtError):
    """What is no example, with its index."""

    def __init__(self, index):
        super().__init__(f"wrong example at index {index}")
        self.index = index


class NotWritable(CourtError):
    """A book that no text can tell, with the number of the rule that hinders it."""

    def __init__(self, index):
        super().__init__(f"a reserved word stands at index {index}")
        self.index = index


class InvalidText(CourtError):
    """A text that tells no book, with the row and the word that is wrong."""

    def __init__(self, row, word):
        super().__init__(f"wrong word {word} of row {row}")
        self.row = row
        self.word = word


class DecodeError(CourtError):
    """A list that encodes no book, with the offset of the wrong item."""

    def __init__(self, offset):
        super().__init__(f"wrong item at offset {offset}")
        self.offset = offset


class DaybookError(CourtError):
    """A text that is no daybook, with the row and the word that is wrong."""

    def __init__(self, row, word):
        super().__init__(f"wrong word {word} of row {row} of a daybook")
        self.row = row
        self.word = word
