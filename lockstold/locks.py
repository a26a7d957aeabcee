"""LOCKS, their PAIRS, and all LOCKS of told STATES."""

from lockstold.errors import CanNot, Unfit
from lockstold.plain import ascends, frozen, part_of
from lockstold.states import from_best, is_release, lot_in


def is_lock(thing):
    if not isinstance(thing, tuple) or not all([is_release(own) for own in thing]):
        return False
    return ascends([own[0] for own in thing])


def state_of(lock, name):
    """The STATE of name in lock: its VERSION there, else 0."""
    for own, version in lock:
        if own == name:
            return version
    return 0


def names_in(lock):
    return tuple([own[0] for own in lock])


def lock_with(lock, release):
    """The LOCK with release, in the place of another one of its NAME, if any."""
    return tuple(sorted(lock_without(lock, release[0]) + (frozen(release),)))


def lock_without(lock, name):
    return tuple([own for own in frozen(lock) if own[0] != name])


def pairs_of(lock, names):
    """The set of the PAIRS of lock whose NAME is one of names."""
    held = frozen(lock)
    return tuple(sorted({(own, name, state_of(held, name)) for own in held for name in names if name != own[0]}))


def shared_lock(lock, other):
    far = frozen(other)
    return tuple([own for own in frozen(lock) if own in far])


def unlike_names(lock, other):
    """The set of the NAMES that have unlike STATES in lock and other."""
    names = sorted(set(names_in(lock) + names_in(other)))
    return tuple([name for name in names if state_of(lock, name) != state_of(other, name)])


def lock_renamed(lock, renames):
    """The LOCK with each first NAME of renames called as the second one, all at once."""
    called = dict(renames)
    found = sorted([(called.get(name, name), version) for name, version in lock])
    if not ascends([own[0] for own in found]):
        raise Unfit()
    return tuple(found)


def all_locks(choices):
    """All LOCKS of the STATES that choices let, the better ones by the WISH () first."""
    found = [()]
    for name, lot in choices:
        # Of two LOCKS the first NAME at which they are unlike decides: later NAMES turn faster.
        found = [lock + part_of(name, state) for lock in found for state in from_best(lot)]
    return found


def lock_number(choices, lock):
    """The number that lock has in all_locks, reckoned without going through all of them."""
    if None in [lot_in(choices, name) for name in names_in(lock)]:
        raise CanNot()
    number = 0
    for name, lot in choices:
        state = state_of(lock, name)
        if state not in lot:
            raise CanNot()
        number = number * len(lot) + from_best(lot).index(state)
    return number


def lock_at(choices, number):
    """The LOCK that has this number in all_locks."""
    lock, left = (), number
    for name, lot in reversed(choices):
        left, at = divmod(left, len(lot))
        lock = part_of(name, from_best(lot)[at]) + lock
    # What is left of a number below 0 is -1, of one beyond the end 1 or more.
    if left != 0:
        raise CanNot()
    return lock
