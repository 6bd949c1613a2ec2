"""Days, written as integers."""

from smallcourt.errors import InvalidDay
from smallcourt.names import is_integer

LAST_DAY = 10 ** 18


def is_day(value):
    """Tell whether a value of any kind is a day; a number of days is checked likewise."""
    return is_integer(value) and 0 <= value <= LAST_DAY


def check_day(value):
    """Raise InvalidDay for what is no day."""
    if not is_day(value):
        raise InvalidDay("the day is not from 0 to 10 ** 18")
