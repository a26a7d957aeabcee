"""Few ROWS that no SHELF tells: least bad sets of ROWS."""

from lockstold.checks import SHOPS, check_few, check_rows, fit_telling
from lockstold.errors import CanNot, Unfit
from lockstold.families import least_bad_sets
from lockstold.loom import Loom, all_bits
from lockstold.plain import frozen, is_number, is_number_from, is_number_set, is_rows_of
from lockstold.rowsets import are_bad, are_least_bad, bits_of, rows_of_bits
from lockstold.told import is_against


def is_bad(telling, shop, rows):
    """Whether no SHELF of this SHOP tells the ROWS rows alone."""
    held = fit_telling(telling, shop)
    bits = _fit_bits(held, rows)
    return are_bad(Loom(held, shop), bits)


def is_least_bad(telling, shop, thing):
    held = fit_telling(telling, shop)
    return is_rows_of(len(held), thing) and are_least_bad(Loom(held, shop), bits_of(thing))


def all_least_bad(telling, shop):
    """All least bad sets of ROWS, ascending."""
    held = fit_telling(telling, shop)
    check_few(held)
    return sorted([rows_of_bits(bits) for bits in least_bad_sets(Loom(held, shop))])


def least_bad(telling, shop):
    """The least bad set of the fewest ROWS."""
    return _least_of(all_least_bad(telling, shop))


def bad_with(telling, shop, row):
    """The least bad set of the fewest ROWS that has this row."""
    return _least_of(_bad_sets_with(telling, shop, row))


def hurts(telling, shop, row):
    """Whether some least bad set has this row."""
    return _bad_sets_with(telling, shop, row) != []


def shrunk(telling, shop, rows):
    """rows without the greatest ROW without which they are bad yet, again and again."""
    held = fit_telling(telling, shop)
    left, loom = _fit_bits(held, rows), Loom(held, shop)
    if not are_bad(loom, left):
        raise CanNot()
    # What was needed once is needed yet when less is left: each ROW is looked at once.
    for number in reversed(rows):
        if are_bad(loom, left ^ 1 << number):
            left = left ^ 1 << number
    return rows_of_bits(left)


def freed_by(telling, shop):
    """The ROWS without each of which alone some SHELF tells all others."""
    held = fit_telling(telling, shop)
    loom = Loom(held, shop)
    whole = all_bits(loom)
    if not are_bad(loom, whole):
        raise CanNot()
    return tuple([at for at in range(len(held)) if not are_bad(loom, whole ^ 1 << at)])


def rows_of(telling, shop, found):
    """The ROWS of the AGAINST found, its own with them."""
    held, paper = fit_telling(telling, shop), frozen(found)
    if not is_against(held, shop, paper):
        raise Unfit()
    lent = paper[3] if paper[0] == "better" else ()
    return tuple(sorted(set(lent + (paper[1],))))


def row_bound(many, shop):
    """How many ROWS a least bad set has at most in whose answers so many NAMES stand."""
    if not is_number_from(0, many) or shop not in SHOPS:
        raise Unfit()
    if many == 0:
        return 1
    if many == 1:
        return 3 if shop == "short" else 2
    # What is added up for p is never less for a greater p: so p is many.
    return 1 + many * (many - 1) // 2 + (0 if shop == "still" else many)


def _fit_bits(held, rows):
    numbers = frozen(rows)
    if not is_number_set(numbers):
        raise Unfit()
    check_rows(held, numbers)
    return bits_of(numbers)


def _bad_sets_with(telling, shop, row):
    held = fit_telling(telling, shop)
    if not is_number(row):
        raise Unfit()
    check_rows(held, (row,))
    return [own for own in all_least_bad(held, shop) if row in own]


def _least_of(sets):
    """The one of these sets that has the fewest members, the least of several such ones."""
    if sets == []:
        raise CanNot()
    return min(sets, key=lambda own: (len(own), own))
