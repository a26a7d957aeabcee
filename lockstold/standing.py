"""Which LOCKS stand on a SHELF on a DAY, and what it answers then."""

from lockstold.errors import CanNot, NoPaper, TooMany
from lockstold.footing import all_upright, choices_of, rules_on
from lockstold.locks import names_in, state_of
from lockstold.plain import frozen
from lockstold.states import is_release
from lockstold.wishes import best_that_meets

MOST_LOCKS = 3125


def stands(shelf, day, lock):
    return _falls(shelf, day, lock) == []


def why_falls(shelf, day, lock):
    """A FALL of lock, the first one that its RELEASES have."""
    found = _falls(shelf, day, lock)
    if found == []:
        raise NoPaper()
    return found[0]


def is_why_falls(shelf, day, lock, thing):
    if not isinstance(thing, tuple) or len(thing) < 2:
        return False
    # Python takes True for 1: a RELEASE is looked at for itself.
    return is_release(thing[1]) and thing in _falls(shelf, day, lock)


def all_standing(shelf, day):
    """The LOCKS that stand, ascending."""
    rules = rules_on(shelf, day)
    choices = choices_of(rules)
    _check_many(choices)
    return all_upright(rules, choices)


def how_many_stand(shelf, day):
    return len(all_standing(shelf, day))


def answer_of(shelf, wish, day):
    """The ANSWER of shelf to wish on day, None if there is none."""
    return best_that_meets(wish, all_standing(shelf, day))


def answers_on(shelf, wishes, day):
    locks = all_standing(shelf, day)
    return [best_that_meets(wish, locks) for wish in wishes]


def can_be_there(shelf, day, release):
    return _standing_with(shelf, day, release) != []


def can_be_together(shelf, day, one, other):
    far = frozen(other)
    return any([far in lock for lock in _standing_with(shelf, day, one)])


def never_there(shelf, day):
    """The RELEASES of shelf that no LOCK that stands on day has."""
    had = {release: True for lock in all_standing(shelf, day) for release in lock}
    return tuple([own[0] for own in frozen(shelf) if own[0] not in had])


def needed_by(shelf, day, release):
    """The other NAMES that have a VERSION in each LOCK that stands and has release."""
    locks = _standing_with(shelf, day, release)
    if locks == []:
        raise CanNot()
    others = [name for name in names_in(locks[0]) if name != release[0]]
    return tuple([name for name in others if all([state_of(lock, name) > 0 for lock in locks])])


def _falls(shelf, day, lock):
    """All FALLS of lock on shelf on day."""
    rules = rules_on(shelf, day)
    found = []
    for release in frozen(lock):
        if release not in rules:
            found.append(("lacking", release))
        else:
            lots = rules[release]
            found.extend([("barred", release, name) for name, lot in lots if state_of(lock, name) not in lot])
    return found


def _check_many(choices):
    many = 1
    for states in list(choices.values()):
        many = many * len(states)
    if many > MOST_LOCKS:
        raise TooMany()


def _standing_with(shelf, day, release):
    """The LOCKS that stand and have release, ascending."""
    own = frozen(release)
    return [lock for lock in all_standing(shelf, day) if own in lock]
