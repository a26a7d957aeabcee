"""LOCKS that some ROWS of a TELLING weave on the DAY of another one, for AGAINSTS and RANK PAPERS."""

from lockstold.locks import is_lock
from lockstold.plain import is_row_number, is_rows_of, is_tuple_of
from lockstold.wishes import is_met
from lockstold.woven import is_woven, lenders, rows_lent


def lent_triple(rows, shop, number, lock):
    """(number, lock, lent): lock, woven on the DAY of this ROW of rows, is woven of the ROWS lent alone."""
    return (number, lock, rows_lent(lenders(rows, shop, rows[number][0], lock)))


def is_lent_triple(rows, shop, thing):
    """Whether thing is such a triple, and its LOCK meets the WISH of its ROW."""
    if not is_tuple_of(3, thing) or not is_row_number(len(rows), thing[0]) or not is_lock(thing[1]):
        return False
    number, lock, lent = thing
    day, wish, _ = rows[number]
    if not is_rows_of(len(rows), lent) or not is_met(wish, lock):
        return False
    return is_woven([rows[own] for own in lent], shop, day, lock)
