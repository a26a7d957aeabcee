"""Checks of arguments that several files make, and the errors that they raise."""

from lockstold.errors import NoRow, TooMany, Unfit
from lockstold.plain import frozen
from lockstold.tellings import is_telling

SHOPS = ("still", "growing", "short")
MOST_ROWS = 10


def fit_telling(telling, shop):
    """telling, made of tuples; Unfit if it is no TELLING, or shop is no SHOP."""
    rows = frozen(telling)
    if not is_telling(rows) or shop not in SHOPS:
        raise Unfit()
    return rows


def check_rows(rows, numbers):
    """NoRow for the first of numbers that is none of a ROW of rows."""
    for number in numbers:
        if not 0 <= number < len(rows):
            raise NoRow(number)


def check_few(rows):
    """TooMany if there are more ROWS than all sets of them can be gone through."""
    check_most(rows, MOST_ROWS)


def check_most(rows, most):
    """TooMany if there are more than so many ROWS."""
    if len(rows) > most:
        raise TooMany()
