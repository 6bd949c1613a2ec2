"""Daybooks: texts that tell what happened in a court."""

from smallcourt.errors import CourtError, DaybookError, InvalidText
from smallcourt.live import LiveCourt
from smallcourt.notation import parse_book
from smallcourt.words import Words

MOST_ENTRIES = 200
# How many names belong to an entry; those of `judge` may be more.
NAMES_BEHIND = {"judge": 1, "strike": 1, "swap": 1, "ruling": 2, "renew": 1, "drop": 1, "undo": 0, "look": 2}
WORD_OF_BOOK = "else"


class Daybook:
    """The rows of a book, the row `court`, and rows with entries."""

    def __init__(self, text):
        rows = text.split("\n")
        if "court" not in rows:
            raise DaybookError(len(rows), 0)
        begin = rows.index("court") + 1
        try:
            self._book = parse_book("\n".join(rows[:begin - 1]))
            entries = read_entries(rows, begin)
        except InvalidText as fault:
            raise DaybookError(fault.row, fault.word) from None
        self._operations = [entry for entry in entries if entry[0] != "look"]
        self._results = results_of(self._book, begin, entries)

    @property
    def results(self):
        """The text with a row for what each entry but `look` returned."""
        return self._results

    def finish(self):
        """Return a live court after all entries."""
        return LiveCourt.replay(self._book, self._operations)


def read_entries(rows, begin):
    """Return the list of the entries in the rows from one on: operations, and tuples ("look", label, ruling)."""
    entries = []
    for row in range(begin, len(rows)):
        if len(entries) == MOST_ENTRIES:
            raise InvalidText(row, 0)
        entries.append(read_entry(Words(row, rows[row])))
    return entries


def read_entry(words):
    """Read the row of an entry, and return it."""
    word = words.take(words.ahead() in NAMES_BEHIND)
    names = [words.take_name() for _ in range(NAMES_BEHIND[word])]
    if word == "judge":
        case = []
        while words.ahead() is not None:
            case.append(words.take_name())
        return word, names[0], tuple(case)
    words.check_end()
    if word in ("strike", "swap"):
        return "amend", (word, names[0])
    if word == "ruling":
        return "amend", (word, None if names[0] == WORD_OF_BOOK else names[0], names[1])
    return (word,) + tuple(names)


def results_of(book, begin, entries):
    """Return the text of what the entries return, which stand in the rows from one on, in a court with a book."""
    court = LiveCourt(book)
    told = []
    for row, entry in enumerate(entries, start=begin):
        if entry[0] == "look":
            if entry[1:] not in [(label, ruling) for label, _, ruling, _ in court.judged]:
                raise DaybookError(row, 0)
        else:
            try:
                told.extend(court.apply_all([entry]))
            except CourtError:
                raise DaybookError(row, 0) from None
    return "\n".join([shown(result) for result in told])


def shown(result):
    """Return what an entry returned as a word, or as labels joined by spaces."""
    if isinstance(result, bool):
        return "yes" if result else "no"
    if isinstance(result, list):
        return " ".join(result) if result else "-"
    return result
