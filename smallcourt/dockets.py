"""Dockets: entries that are ruled by several courts, and that look at each other."""

from smallcourt.bench import Bench
from smallcourt.errors import InvalidDocket, InvalidNumber, UnknownLabel
from smallcourt.facts import check_case, is_case
from smallcourt.names import check_word, is_integer, is_name

MOST_BOOKS = 4
MOST_ENTRIES = 40
MOST_LOOKS = 6
MOST_APPEALS = 3


class Docket:
    """Books, which are the courts, and a tuple of entries (label, case, looks, court)."""

    def __init__(self, books, entries):
        check_books(books)
        check_entries(books, entries)
        self._books = books
        self._entries = entries
        self._told = Bench(books).ruled(entries, {}, ())

    @property
    def books(self):
        """The tuple of the books, the lowest court first."""
        return self._books

    @property
    def entries(self):
        """The tuple of the entries."""
        return self._entries

    def __getitem__(self, label):
        """Return the tuple (ruling, decider, full case) of an entry."""
        if label not in self:
            raise UnknownLabel("the docket has no such entry")
        return self._told[label]

    def __len__(self):
        return len(self._entries)

    def __contains__(self, label):
        return is_name(label) and label in self._told

    def __iter__(self):
        raise TypeError("a docket cannot be iterated over")


def check_books(books):
    """Raise InvalidDocket unless there are one to four books with the same facts."""
    if not books:
        raise InvalidDocket("books", 0)
    for index, book in enumerate(books):
        if index == MOST_BOOKS or book.facts != books[0].facts:
            raise InvalidDocket("books", index)


def check_entries(books, entries):
    """Raise InvalidDocket for the first wrong entry."""
    labels = []
    for index, entry in enumerate(entries):
        if index == MOST_ENTRIES or not is_entry(entry, books, labels):
            raise InvalidDocket("entries", index)
        labels.append(entry[0])


def is_entry(value, books, labels):
    """Tell whether a value of any kind is an entry that can stand behind others with some labels."""
    if not isinstance(value, tuple) or len(value) != 4:
        return False
    label, case, looks, court = value
    if not is_name(label) or label in labels or not is_case(books[0].facts, case):
        return False
    if not isinstance(looks, tuple) or len(looks) > MOST_LOOKS:
        return False
    seen = all([is_look(look, books[0].facts, labels) for look in looks])
    return seen and is_integer(court) and 0 <= court < len(books)


def is_look(value, facts, labels):
    """Tell whether a value of any kind is a look at an entry with one of some labels."""
    if not isinstance(value, tuple) or len(value) != 3:
        return False
    label, ruling, fact = value
    return label in labels and is_name(ruling) and fact in facts


def looked_at(docket, label):
    """Return the list of the labels of all entries at which an entry looks, directly or through others."""
    check_label(docket, label)
    found = [label]
    for earlier, _, looks, _ in docket.entries[::-1]:
        if earlier in found:
            found.extend([seen for seen, _, _ in looks if seen not in found])
    return [earlier for earlier, _, _, _ in docket.entries if earlier in found and earlier != label]


def effect_of(docket, label, ruling):
    """Return the list of the labels of all other entries that have another ruling if an entry has this one."""
    check_label(docket, label)
    check_word(ruling)
    told = Bench(docket.books).ruled(docket.entries, {label: ruling}, ())
    others = [other for other, _, _, _ in docket.entries if other != label]
    return [other for other in others if told[other][0] != docket[other][0]]


def without(docket, label):
    """Return the docket without an entry, and without the looks at it."""
    check_label(docket, label)
    kept = []
    for other, case, looks, court in docket.entries:
        if other != label:
            kept.append((other, case, tuple([look for look in looks if look[0] != label]), court))
    return Docket(docket.books, tuple(kept))


def retried(docket, label, case):
    """Return the docket in which an entry has another case."""
    check_label(docket, label)
    check_case(docket.books[0].facts, case)
    entries = [(other, case if other == label else old, looks, court) for other, old, looks, court in docket.entries]
    return Docket(docket.books, tuple(entries))


def fewest_appeals(docket, label, ruling, most):
    """Return the shortest list of entries that must be ruled one court higher for a ruling of an entry, or None."""
    check_label(docket, label)
    check_word(ruling)
    if not is_integer(most) or not 0 <= most <= MOST_APPEALS:
        raise InvalidNumber("the number is not from 0 to 3")
    # Other entries change nothing for this one, so that the shortest list has none of them.
    tied = looked_at(docket, label) + [label]
    entries = [entry for entry in docket.entries if entry[0] in tied]
    movable = [entry[0] for entry in entries if entry[3] + 1 < len(docket.books)]
    bench = Bench(docket.books)
    chosen = [()]
    for _ in range(most + 1):
        for places in chosen:
            appealed = [movable[place] for place in places]
            if bench.ruled(entries, {}, appealed)[label][0] == ruling:
                return appealed
        chosen = [less + (place,) for less in chosen for place in range(behind(less), len(movable))]
    return None


def behind(places):
    """Return the place behind the last one of some places."""
    return places[-1] + 1 if places else 0


def check_label(docket, label):
    """Raise UnknownLabel for what is not the label of an entry."""
    if label not in docket:
        raise UnknownLabel("the docket has no such entry")
