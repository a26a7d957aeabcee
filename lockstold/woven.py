"""Woven LOCKS: what must stand on each SHELF that tells a TELLING."""

from lockstold.errors import NoPaper
from lockstold.locks import pairs_of, state_of
from lockstold.loom import Loom, all_bits, all_by, best_by, plan_for
from lockstold.plain import frozen, is_number_from, is_same, is_tuple_of
from lockstold.tellings import first_told, last_told, names_told, rows_with, told_by


def is_woven(telling, shop, day, lock):
    return _gaps(telling, shop, day, lock) == []


def lenders(telling, shop, day, lock):
    """LENDERS of lock: of each PAIR the first ROW, of each end the first ROW of a fit DAY."""
    rows, held = frozen(telling), frozen(lock)
    if not is_woven(rows, shop, day, held):
        raise NoPaper()
    ends = [(own, tuple([fit[0] for fit in _fit_ends(rows, shop, day, own)])) for own in held]
    pairs = pairs_of(held, names_told(rows))
    return (tuple(ends), tuple([(pair, rows_with(rows, pair)[0]) for pair in pairs]))


def is_lenders(telling, shop, day, lock, thing):
    rows, held = frozen(telling), frozen(lock)
    if not is_tuple_of(2, thing):
        return False
    fit_ends = [(own, _fit_ends(rows, shop, day, own)) for own in held]
    fit_lent = [(pair, rows_with(rows, pair)) for pair in pairs_of(held, names_told(rows))]
    return _are_fit(thing[0], fit_ends, _are_ends) and _are_fit(thing[1], fit_lent, _is_one_of)


def rows_lent(told):
    """The numbers of ROWS that stand in the LENDERS told."""
    ends, lent = told
    numbers = [number for own in ends for number in own[1]] + [own[1] for own in lent]
    return tuple(sorted(set(numbers)))


def gap(telling, shop, day, lock):
    """A GAP of lock, the first one that its RELEASES have."""
    found = _gaps(telling, shop, day, lock)
    if found == []:
        raise NoPaper()
    return found[0]


def is_gap(telling, shop, day, lock, thing):
    return any([is_same(thing, own) for own in _gaps(telling, shop, day, lock)])


def all_woven(telling, shop, day):
    """All woven LOCKS, ascending."""
    loom = Loom(telling, shop)
    return all_by(loom, all_bits(loom), plan_for(loom, day, ()))


def new_woven(telling, shop, day):
    """The woven LOCKS that no ROW has as its answer, ascending."""
    answers = [row[2] for row in frozen(telling)]
    return [lock for lock in all_woven(telling, shop, day) if lock not in answers]


def woven_more(telling, more, shop, day):
    """The LOCKS that are woven of telling and more together, but not of telling, ascending."""
    both = all_woven(frozen(telling) + frozen(more), shop, day)
    return [lock for lock in both if not is_woven(telling, shop, day, lock)]


def best_woven(telling, shop, day, wish):
    """The best woven LOCK that meets wish, None if there is none."""
    loom = Loom(telling, shop)
    return best_by(loom, all_bits(loom), plan_for(loom, day, wish))


def woven_days(telling, shop, lock):
    """The first and the last DAY on which lock is woven, None if it never is."""
    rows, held = frozen(telling), frozen(lock)
    # By "still" no DAY matters: what is woven then is so but for its DAYS.
    if not is_woven(rows, "still", 0, held):
        return None
    if shop == "still" or held == ():
        return (0, None)
    first = max([first_told(rows, own) for own in held])
    last = min([last_told(rows, own) for own in held])
    if shop == "growing":
        return (first, None)
    return (first, last) if first <= last else None


def _fit_ends(rows, shop, day, release):
    """For each end of release the numbers of the ROWS that may stand in LENDERS."""
    having = told_by(rows, release)
    if shop == "still":
        return [having]
    ahead = tuple([at for at in having if rows[at][0] <= day])
    behind = tuple([at for at in having if rows[at][0] >= day])
    return [ahead] if shop == "growing" else [ahead, behind]


def _are_fit(thing, fit, is_fit):
    """Whether thing has for each pair (key, many) of fit, in order, a pair of key and what is fit by many."""
    if not is_tuple_of(len(fit), thing) or not all([is_tuple_of(2, own) for own in thing]):
        return False
    return all([is_same(own[0], key) and is_fit(own[1], many) for own, (key, many) in zip(thing, fit)])


def _are_ends(thing, fit):
    return is_tuple_of(len(fit), thing) and all([_is_one_of(own, rows) for own, rows in zip(thing, fit)])


def _is_one_of(thing, rows):
    return is_number_from(0, thing) and thing in rows


def _gaps(telling, shop, day, lock):
    """All GAPS of lock."""
    rows, held = frozen(telling), frozen(lock)
    names = names_told(rows)
    found = []
    for release in held:
        found.extend(_gaps_of_days(rows, shop, day, release))
        if told_by(rows, release) != ():
            pairs = [(release, name, state_of(held, name)) for name in names if name != release[0]]
            found.extend([("apart", release, pair[1]) for pair in pairs if rows_with(rows, pair) == ()])
    return found


def _gaps_of_days(rows, shop, day, release):
    first, last = first_told(rows, release), last_told(rows, release)
    if first is None:
        return [("never", release)]
    if shop != "still" and first > day:
        return [("early", release)]
    return [("late", release)] if shop == "short" and last < day else []
