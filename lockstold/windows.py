"""DAYS that were not told: when a RELEASE can have been there, and in which order ROWS can have been told."""

from lockstold.checks import SHOPS, check_rows
from lockstold.errors import CanNot, NoPaper
from lockstold.loom import Loom, all_bits, can_be_told, is_lost
from lockstold.plain import frozen, is_row_number, is_rows_of, stretches
from lockstold.tellings import first_told, last_told, row_of
from lockstold.told import tight_shelf


def window_of(telling, release):
    """The first and the last told DAY of release."""
    first = first_told(telling, release)
    if first is None:
        raise CanNot()
    return (first, last_told(telling, release))


def earliest_day(telling, shop, release):
    """The first DAY on which some SHELF that tells telling has release."""
    return _days_had(telling, shop, release)[0]


def latest_day(telling, shop, release):
    """The last DAY on which some SHELF that tells telling has release, None if there is no last one."""
    return _days_had(telling, shop, release)[1]


def gone_rows(telling, shop, release):
    """The ROWS on whose DAY no SHELF that tells telling has release."""
    first, last = _days_had(telling, shop, release)
    days = [row[0] for row in telling]
    return tuple([at for at, day in enumerate(days) if day < first or (last is not None and day > last)])


def days_for(telling, shop, row):
    """The stretches of DAYS with which, in the place of the DAY of this row, some SHELF tells all."""
    check_rows(telling, (row,))
    rows = frozen(telling)
    others = [own[0] for at, own in enumerate(rows) if at != row]
    # Only whether the ROW comes ahead of another one, on its DAY or behind it can matter.
    starts = sorted(set([0] + others + [day + 1 for day in others]))
    fit = [can_be_told(rows[:row] + ((day,) + rows[row][1:],) + rows[row + 1:], shop) for day in starts]
    return tuple([(first, last) for first, last, own in stretches(starts, fit) if own])


def shop_needed(telling):
    """The first SHOP of which some SHELF tells telling, None if there is none."""
    for shop in SHOPS:
        if can_be_told(telling, shop):
            return shop
    return None


def day_order(telling):
    """A DAY ORDER, the ROWS that can be the last ones taken for the last ones."""
    order, left = _taken_away(frozen(telling))
    if left != ():
        raise CanNot()
    return order


def is_day_order(telling, thing):
    rows = frozen(telling)
    if not isinstance(thing, tuple) or not all([is_row_number(len(rows), own) for own in thing]):
        return False
    if sorted(thing) != list(range(len(rows))):
        return False
    return can_be_told([(thing.index(at),) + row[1:] for at, row in enumerate(rows)], "growing")


def day_knot(telling):
    """The DAY KNOT of all ROWS that are in some."""
    left = _taken_away(frozen(telling))[1]
    if left == ():
        raise NoPaper()
    return left


def is_day_knot(telling, thing):
    rows = frozen(telling)
    return is_rows_of(len(rows), thing) and thing != () and _lost_ahead(rows, thing) == thing


def _days_had(telling, shop, release):
    """The first and the last DAY, None without, on which some SHELF that tells telling has release."""
    rows, own = frozen(telling), frozen(release)
    first, last = window_of(rows, own)
    # With the RELEASE there at all times each ROW tells of its own DAY: if it is not told, that DAY is barred.
    wide = tuple([entry[:2] + (0, None) if entry[0] == own else entry for entry in tight_shelf(rows, shop)])
    barred = [row[0] for row in rows if row_of(wide, row[0], row[1]) != row]
    earliest = max([day + 1 for day in barred if day < first], default=0)
    return earliest, min([day - 1 for day in barred if day > last], default=None)


def _taken_away(rows):
    """An order of ROWS that can be the last ones, and the set of those left when no more can be."""
    order, left = (), tuple(range(len(rows)))
    lost = _lost_ahead(rows, left)
    while lost != left:
        order = tuple([at for at in left if at not in lost]) + order
        left, lost = lost, _lost_ahead(rows, lost)
    return order, left


def _lost_ahead(rows, numbers):
    """Those of the ROWS numbers that have an AGAINST by "growing" if they have the DAY 0, all others 1."""
    days = [0 if at in numbers else 1 for at in range(len(rows))]
    loom = Loom([(day,) + row[1:] for day, row in zip(days, rows)], "growing")
    return tuple([at for at in numbers if is_lost(loom, all_bits(loom), at)])
