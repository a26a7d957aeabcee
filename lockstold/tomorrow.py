"""What a SHELF that tells a TELLING can answer to one WISH more."""

from lockstold.errors import CanNot, NoPaper, TooMany
from lockstold.locks import all_locks, state_of
from lockstold.loom import can_be_told
from lockstold.plain import frozen
from lockstold.tellings import names_told, releases_told
from lockstold.told import against, is_against
from lockstold.wishes import is_met, locks_from_best

MOST_LOCKS = 100


def can_answer(telling, shop, day, wish, given):
    """Whether some SHELF that tells telling can answer given to wish on day."""
    return can_be_told(_with_row(telling, day, wish, given), shop)


def why_not_answer(telling, shop, day, wish, given):
    """An AGAINST of telling with the ROW of this answer behind."""
    rows = _with_row(telling, day, wish, given)
    if can_be_told(rows, shop):
        raise NoPaper()
    return against(rows, shop)


def is_why_not_answer(telling, shop, day, wish, given, thing):
    return is_against(_with_row(telling, day, wish, given), shop, thing)


def possible_answers(telling, shop, day, wish):
    """The POSSIBLE answers, the better ones first, None last."""
    _check_few_locks(telling)
    rows = frozen(telling)
    if not can_be_told(rows, shop):
        return []
    locks = [lock for lock in all_locks(_choices(rows)) if is_met(wish, lock)]
    asked = locks_from_best(wish, locks) + [None]
    return [given for given in asked if can_answer(rows, shop, day, wish, given)]


def possible_states(telling, shop, day, wish, name):
    """The STATES that name has in the POSSIBLE answers that are LOCKS."""
    locks = _possible_locks(telling, shop, day, wish)
    return tuple(sorted({state_of(lock, name) for lock in locks}))


def sure_states(telling, shop, day, wish):
    """Pairs (name, state) of the told NAMES that have one STATE alone in the POSSIBLE LOCKS."""
    locks = _possible_locks(telling, shop, day, wish)
    if locks == []:
        raise CanNot()
    states = [(name, state_of(locks[0], name)) for name in names_told(telling)]
    return tuple([(name, own) for name, own in states if all([state_of(lock, name) == own for lock in locks])])


def sure_answer(telling, shop, day, wish):
    """The POSSIBLE answer, if there is just one."""
    found = possible_answers(telling, shop, day, wish)
    if len(found) != 1:
        raise CanNot()
    return found[0]


def parting_wishes(telling, shop, day, wishes):
    """The numbers of the wishes that have two POSSIBLE answers or more."""
    many = _how_many_answers(telling, shop, day, wishes)
    return tuple([at for at, own in enumerate(many) if own > 1])


def best_question(telling, shop, day, wishes):
    """The number of the first of wishes of those that have the most POSSIBLE answers."""
    many = _how_many_answers(telling, shop, day, wishes)
    return many.index(max(many))


def is_settled(telling, shop, day, wishes):
    """Whether each of wishes has just one POSSIBLE answer."""
    return all([own == 1 for own in _how_many_answers(telling, shop, day, wishes)])


def told_next(telling, shop, day, wish, given):
    """telling with the ROW of this answer behind, if given can come."""
    rows = _with_row(telling, day, wish, given)
    if not can_be_told(rows, shop):
        raise CanNot()
    return rows


def narrowed_by(telling, shop, day, wish, given, later):
    """The POSSIBLE answers to later that cannot come to it any more behind told_next."""
    _check_few_locks(telling)
    rows = told_next(telling, shop, day, wish, given)
    asked = possible_answers(telling, shop, day, later)
    return [own for own in asked if not can_answer(rows, shop, day, later, own)]


def _with_row(telling, day, wish, given):
    return frozen(telling) + ((day, frozen(wish), frozen(given)),)


def _choices(telling):
    """The STATES of each told NAME, as RULES."""
    choices = {name: (0,) for name in names_told(telling)}
    for name, version in releases_told(telling):
        choices[name] = choices[name] + (version,)
    return [(name, choices[name]) for name in choices]


def _check_few_locks(telling):
    """TooMany if the told RELEASES of telling give more LOCKS than are gone through."""
    many = 1
    for own in _choices(telling):
        many = many * len(own[1])
    if many > MOST_LOCKS:
        raise TooMany()


def _possible_locks(telling, shop, day, wish):
    return [own for own in possible_answers(telling, shop, day, wish) if own is not None]


def _how_many_answers(telling, shop, day, wishes):
    return [len(possible_answers(telling, shop, day, wish)) for wish in wishes]
