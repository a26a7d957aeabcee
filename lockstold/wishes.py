"""WISHES: which LOCKS meet them, and which of these are better."""

from lockstold.locks import names_in, state_of, unlike_names
from lockstold.plain import frozen, is_better_state, is_set_from, is_tuple_of
from lockstold.states import is_name, lot_in, lots_common


def is_wish(thing):
    if not isinstance(thing, tuple):
        return False
    if not all([is_tuple_of(2, own) and is_name(own[0]) and is_set_from(1, own[1]) for own in thing]):
        return False
    return len(set([own[0] for own in thing])) == len(thing)


def is_met(wish, lock):
    return first_unmet(wish, lock) is None


def first_unmet(wish, lock):
    """The first NAME of wish that lock does not have in one of its versions, None without."""
    for name, versions in wish:
        if state_of(lock, name) not in versions:
            return name
    return None


def order_of(wish, names):
    """The NAMES of wish, as they come, then those of names that it does not have, ascending."""
    own = [part[0] for part in wish]
    return tuple(own + sorted([name for name in names if name not in own]))


def is_better(wish, lock, far):
    name = first_unlike(wish, lock, far)
    if name is None:
        return False
    return is_better_state(state_of(lock, name), state_of(far, name))


def first_unlike(wish, lock, far):
    """The first NAME of the ORDER of wish at which lock and far have unlike STATES, None without."""
    unlike = unlike_names(lock, far)
    for name in order_of(wish, unlike):
        if name in unlike:
            return name
    return None


def best_of(wish, locks):
    """The best of locks by wish, whether it meets it or not; None for ()."""
    order = _order_for(wish, locks)
    return frozen(min(locks, key=lambda one: _rank(order, one), default=None))


def locks_from_best(wish, locks):
    order = _order_for(wish, locks)
    return sorted(sorted(set(frozen(locks))), key=lambda one: _rank(order, one))


def all_that_meet(wish, locks):
    return sorted({lock for lock in frozen(locks) if is_met(wish, lock)})


def best_that_meets(wish, locks):
    return best_of(wish, [lock for lock in locks if is_met(wish, lock)])


def just_wish(lock):
    """The WISH of the NAMES of lock, ascending, each with its VERSION there alone."""
    return tuple([(name, (version,)) for name, version in lock])


def narrowed(wish, name, versions):
    """The WISH in which name has those versions alone that wish lets it, too."""
    held = lot_in(wish, name)
    if held is None:
        return frozen(wish) + ((name, frozen(versions)),)
    both = lots_common(held, versions)
    return tuple([(own, both if own == name else lot) for own, lot in frozen(wish)])


def both_wishes(one, two):
    """The WISH that just those LOCKS meet that meet one and two."""
    found = frozen(one)
    for name, versions in two:
        found = narrowed(found, name, versions)
    return found


def _order_for(wish, locks):
    """The ORDER of wish over all NAMES that stand in locks."""
    return order_of(wish, sorted({name for lock in locks for name in names_in(lock)}))


def _rank(order, lock):
    """What is less the better lock is, by this order of NAMES."""
    states = [state_of(lock, name) for name in order]
    # Not to be there is better than any VERSION, however great.
    return [(state > 0, -state) for state in states]
