"""ROWS and TELLINGS: what is told in them, and which SHELF tells them."""

from lockstold.footing import best_upright
from lockstold.locks import is_lock, pairs_of, state_of
from lockstold.plain import frozen, is_number_from, is_tuple_of
from lockstold.wishes import is_wish


def is_row(thing):
    if not is_tuple_of(3, thing) or not is_number_from(0, thing[0]) or not is_wish(thing[1]):
        return False
    return thing[2] is None or is_lock(thing[2])


def is_telling(thing):
    return isinstance(thing, tuple) and all([is_row(own) for own in thing])


def names_told(telling):
    return tuple(sorted({own[0] for lock in _told_locks(telling) for own in lock}))


def releases_told(telling):
    return tuple(sorted({own for lock in _told_locks(telling) for own in lock}))


def told_by(telling, release):
    """The numbers of the ROWS whose LOCK has release."""
    wanted = frozen(release)
    return tuple([at for at, lock in enumerate(_told_locks(telling)) if wanted in lock])


def first_told(telling, release):
    """The least DAY of the ROWS whose LOCK has release, None without."""
    return min(_days_told(telling, release), default=None)


def last_told(telling, release):
    """The greatest DAY of the ROWS whose LOCK has release, None without."""
    return max(_days_told(telling, release), default=None)


def pairs_told(telling):
    """The PAIRS that told LOCKS have, but those whose name is not told."""
    names = names_told(telling)
    return tuple(sorted({pair for lock in _told_locks(telling) for pair in pairs_of(lock, names)}))


def rows_with(telling, pair):
    """The numbers of the ROWS whose LOCK has pair, be its name told or not."""
    release, name, state = frozen(pair)
    locks = _told_locks(telling)
    return tuple([at for at, lock in enumerate(locks) if release in lock and state_of(lock, name) == state])


def row_of(shelf, day, wish):
    """The ROW with the ANSWER of shelf to wish on day."""
    return (day, frozen(wish), best_upright(shelf, day, wish))


def telling_of(shelf, asked):
    """The TELLING of what shelf answers to pairs (day, wish)."""
    return tuple([row_of(shelf, day, wish) for day, wish in asked])


def tells(shelf, telling):
    return first_untold(shelf, telling) is None


def first_untold(shelf, telling):
    """The number of the first ROW that shelf does not tell, None if it tells all."""
    for at, (day, wish, answer) in enumerate(frozen(telling)):
        if best_upright(shelf, day, wish) != answer:
            return at
    return None


def on_days(telling, since, until):
    return tuple([row for row in frozen(telling) if since <= row[0] <= until])


def merged(one, other):
    """All ROWS of one and other by ascending DAYS, of one DAY those of one first."""
    return tuple(sorted(frozen(one) + frozen(other), key=lambda row: row[0]))


def each_once(telling):
    """telling without each ROW that is alike to one ahead of it."""
    found = []
    for row in frozen(telling):
        if row not in found:
            found.append(row)
    return tuple(found)


def _told_locks(telling):
    """The LOCK of each ROW, () in the place of None: neither tells a RELEASE or a PAIR."""
    return [() if row[2] is None else row[2] for row in frozen(telling)]


def _days_told(telling, release):
    rows = frozen(telling)
    return [rows[at][0] for at in told_by(rows, release)]
