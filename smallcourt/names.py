"""What is a name, and what is an integer."""

from smallcourt.errors import InvalidRuling

LETTERS = "abcdefghijklmnopqrstuvwxyz"
LONGEST_NAME = 8


def is_name(value):
    """Tell whether a value of any kind is a name: a string of one to eight letters a to z."""
    if not isinstance(value, str) or not 1 <= len(value) <= LONGEST_NAME:
        return False
    return all([letter in LETTERS for letter in value])


def check_word(ruling):
    """Raise InvalidRuling for what is no name, whether or not it stands in a book."""
    if not is_name(ruling):
        raise InvalidRuling("the ruling is no name")


def is_integer(value):
    """Tell whether a value of any kind is an integer; a boolean is none."""
    return isinstance(value, int) and not isinstance(value, bool)


def rises(names, index):
    """Tell whether the name at an index comes behind the one before it, if there is one."""
    return index == 0 or names[index - 1] < names[index]
