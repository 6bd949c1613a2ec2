"""Rows of texts, read word by word from the left to the right."""

from smallcourt.errors import InvalidText
from smallcourt.names import is_name


class Words:
    """The words of a row, and how many of them are read."""

    def __init__(self, row, text):
        self.row = row
        self.left = text.split(" ")
        self.at = 0

    def ahead(self):
        """Return the next word, or None at the end of the row."""
        return self.left[self.at] if self.at < len(self.left) else None

    def check(self, right):
        """Raise InvalidText for the next word, which may be missing, unless it is right."""
        if not right:
            raise InvalidText(self.row, self.at)

    def take(self, right):
        """Read the next word, which is told to be right or not, and return it."""
        self.check(right)
        self.at += 1
        return self.left[self.at - 1]

    def take_name(self):
        """Read the next word, which must be a name, and return it."""
        return self.take(is_name(self.ahead()))

    def check_end(self):
        """Raise InvalidText for the next word if there is one."""
        self.check(self.ahead() is None)
