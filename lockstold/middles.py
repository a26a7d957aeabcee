"""MIDDLES of three LOCKS, and TELLINGS that weave nothing beyond what they tell."""

from lockstold.errors import NoPaper, TooMany, Unfit
from lockstold.locks import is_lock, names_in, state_of
from lockstold.plain import frozen, is_tuple_of
from lockstold.search import lock_of
from lockstold.woven import new_woven

MOST_CLOSED = 60


def middle(one, other, third):
    """The LOCK in which each NAME has the middle one of its three STATES."""
    return _middle_lock((one, other, third))


def are_closed(locks):
    """Whether the MIDDLE of any three members of locks is a member."""
    return _open_places(_members(locks)) is None


def open_triple(locks):
    """The first three members of locks, these ascending, whose MIDDLE is no member."""
    members = _members(locks)
    places = _open_places(members)
    if places is None:
        raise NoPaper()
    return tuple([members[at] for at in places])


def is_open_triple(locks, thing):
    members = _members(locks)
    if not is_tuple_of(3, thing) or not all([is_lock(own) and own in members for own in thing]):
        return False
    return _middle_lock(thing) not in members


def closed_up(locks):
    """All LOCKS to which MIDDLES lead, again and again, from the members of locks."""
    members = _members(locks)
    names = _names_of(members)
    left, found = _states_of(members, names), []
    seen = set(left)
    while left:
        if len(seen) > MOST_CLOSED:
            raise TooMany()
        fresh = left.pop()
        for own in _middles_with(fresh, found):
            if own not in seen:
                seen.add(own)
                left.append(own)
        found.append(fresh)
    return tuple(sorted([lock_of(list(zip(names, states))) for states in found]))


def common_lock(locks):
    """The LOCK in which each NAME has the middle one of its STATES in locks."""
    if len(locks) & 1 == 0:
        raise Unfit()
    return _middle_lock(locks)


def woven_beyond(telling, shop, day):
    """The LOCKS that are woven on day, and neither told nor ()."""
    return tuple([lock for lock in new_woven(telling, shop, day) if lock != ()])


def told_whole(telling):
    """Whether all that is woven by "still" is told, or ()."""
    return woven_beyond(telling, "still", 0) == ()


def _members(locks):
    """The LOCKS of locks and (), each once, ascending."""
    return sorted(set(frozen(locks) + ((),)))


def _names_of(locks):
    return sorted({name for lock in locks for name in names_in(lock)})


def _states_of(locks, names):
    """For each LOCK the tuple of the STATES of these NAMES."""
    return [tuple([state_of(lock, name) for name in names]) for lock in locks]


def _middle_lock(locks):
    """The LOCK of the middle STATES of an odd number of LOCKS."""
    states = [(name, sorted([state_of(lock, name) for lock in locks])) for name in _names_of(locks)]
    return lock_of([(name, own[len(own) // 2]) for name, own in states])


def _middle_states(one, other, third):
    return tuple([sorted(own)[1] for own in zip(one, other, third)])


def _middles_with(fresh, found):
    """The MIDDLES, as tuples of STATES, of fresh and each two of found."""
    return [_middle_states(fresh, one, other) for at, one in enumerate(found) for other in found[:at]]


def _open_places(members):
    """The places of the first three members whose MIDDLE is no member, None without."""
    known = _states_of(members, _names_of(members))
    seen = set(known)
    for third in range(2, len(known)):
        for other in range(1, third):
            for one in range(other):
                if _middle_states(known[one], known[other], known[third]) not in seen:
                    return (one, other, third)
    return None
