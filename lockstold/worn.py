"""WORN forms of a SHELF: what alone decides its ANSWERS."""

from lockstold.errors import CanNot, NoPaper
from lockstold.locks import is_lock, state_of
from lockstold.plain import stretches
from lockstold.shelves import is_shelf, shop_of, turning_days
from lockstold.standing import all_standing
from lockstold.wishes import best_that_meets, is_wish, just_wish


def worn(shelf, day):
    """The WORN form of shelf on day."""
    lots = _lots_beside(all_standing(shelf, day))
    return tuple([(own, _rules_from(own, lots[own]), 0, None) for own in lots])


def is_worn(thing):
    if not is_shelf(thing) or shop_of(thing) != "still":
        return False
    return worn(thing, 0) == thing


def worn_pairs(shelf, day):
    """All PAIRS that LOCKS have which stand on the WORN form."""
    form = worn(shelf, day)
    return tuple([(own[0], name, state) for own in form for name, lot in own[1] for state in lot])


def told_by_wish(shelf, day, thing):
    # A LOCK that stands is the ANSWER to the WISH of just its own RELEASES.
    locks = all_standing(shelf, day)
    return is_lock(thing) and thing in locks


def alike_on(one, other, day):
    # WORN forms are one exactly if the same LOCKS stand.
    return all_standing(one, day) == all_standing(other, day)


def parting_wish(one, other, day):
    """A WISH to which the ANSWERS of one and other are unlike on day."""
    locks, far = all_standing(one, day), all_standing(other, day)
    lone = sorted(set(locks) ^ set(far))
    if lone == []:
        raise NoPaper()
    return just_wish(lone[0])


def is_parting_wish(one, other, day, thing):
    locks, far = all_standing(one, day), all_standing(other, day)
    return is_wish(thing) and best_that_meets(thing, locks) != best_that_meets(thing, far)


def days_alike(one, other):
    """The stretches of DAYS on which one and other are alike."""
    return tuple([(first, last) for first, last, alike in _alike_along(one, other) if alike])


def parting_day(one, other):
    """The least DAY on which one and other are not alike."""
    found = [first for first, last, alike in _alike_along(one, other) if not alike]
    if found == []:
        raise CanNot()
    return found[0]


def worn_along(shelf):
    """The DAYS from 0 on in stretches of one WORN form."""
    starts = _starts(turning_days(shelf))
    return stretches(starts, [worn(shelf, day) for day in starts])


def _lots_beside(locks):
    """For each RELEASE of locks, ascending, the STATES that each NAME has in those that have it."""
    names = sorted({own[0] for lock in locks for own in lock})
    releases = sorted({own for lock in locks for own in lock})
    found = {own: {key: {} for key in names} for own in releases}
    for lock in locks:
        states = [(name, state_of(lock, name)) for name in names]
        for release in lock:
            for name, state in states:
                found[release][name][state] = True
    return found


def _rules_from(release, lots):
    """The RULES of release that let each other NAME its STATES of lots alone."""
    return tuple([(name, tuple(sorted(lots[name]))) for name in lots if name != release[0]])


def _starts(days):
    """The DAYS from 0 on at which something may begin."""
    return sorted(set((0,) + days))


def _alike_along(one, other):
    """The DAYS from 0 on in stretches, each with whether one and other are alike on them."""
    starts = _starts(turning_days(one) + turning_days(other))
    return stretches(starts, [alike_on(one, other, day) for day in starts])
