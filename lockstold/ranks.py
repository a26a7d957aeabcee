"""Orders of NAMES that nobody told: by which RANKS some SHELF tells a TELLING."""

from lockstold.checks import check_rows
from lockstold.errors import CanNot, NoPaper
from lockstold.footing import best_upright_by
from lockstold.lent import is_lent_triple, lent_triple
from lockstold.locks import state_of, unlike_names
from lockstold.loom import Loom, all_bits, all_by, is_lost_by, is_unmet, plan_by
from lockstold.plain import ascends, frozen, is_better_state, is_row_number, is_tuple_of, names_of_row
from lockstold.states import is_name, lot_in
from lockstold.wishes import first_unlike, is_better


def is_rank(telling, thing):
    if not isinstance(thing, tuple) or not all([is_name(own) for own in thing]):
        return False
    return sorted(thing) == _names_of(frozen(telling))


def answer_by(shelf, rank, day, wish):
    """The ANSWER of shelf to wish on day by rank."""
    return best_upright_by(shelf, rank, day, wish)


def rivals(telling, shop, row):
    """All RIVALS of this row, ascending."""
    check_rows(telling, (row,))
    return _rivals_of(Loom(telling, shop), row)


def fits_rank(telling, shop, rank):
    """Whether some SHELF of this SHOP tells telling by rank."""
    loom = Loom(telling, shop)
    plans = [plan_by(loom, rank, row[0], row[1]) for row in loom.rows]
    return not any([is_lost_by(loom, all_bits(loom), plan, at) for at, plan in enumerate(plans)])


def all_ranks(telling, shop):
    """All RANKS that fit, ascending."""
    loom = Loom(telling, shop)
    lost, trials = _tried(loom)
    if lost != []:
        return []
    names, found = _names_of(loom.rows), [()]
    for _ in names:
        found = [own + (name,) for own in found for name in names if name not in own and _may_follow(own, name, trials)]
    return found


def least_rank(telling, shop):
    """The least RANK that fits."""
    loom = Loom(telling, shop)
    lost, trials = _tried(loom)
    names = _names_of(loom.rows)
    rank = _longest_rank(names, trials)
    if lost != [] or len(rank) < len(names):
        raise CanNot()
    return rank


def rank_paper(telling, shop):
    """A RANK PAPER, of one ROW alone if there is such a one."""
    loom = Loom(telling, shop)
    lost, trials = _tried(loom)
    if lost != []:
        word, number, lock = lost[0]
        return (word, number) if lock is None else (word,) + lent_triple(loom.rows, shop, number, lock)
    names = _names_of(loom.rows)
    rank = _longest_rank(names, trials)
    left = tuple([name for name in names if name not in rank])
    if left == ():
        raise NoPaper()
    # What keeps a NAME out wins there and has not lost yet: so it loses at none but those that are left.
    firsts = [[own for own in trials if _keeps_out(own, rank, name)][0] for name in left]
    return ("stuck", left, tuple([lent_triple(loom.rows, shop, own[0], own[1]) for own in firsts]))


def is_rank_paper(telling, shop, thing):
    rows = frozen(telling)
    if is_tuple_of(2, thing) and thing[0] == "unmet":
        return is_row_number(len(rows), thing[1]) and is_unmet(rows[thing[1]])
    if is_tuple_of(4, thing) and thing[0] == "ahead":
        return _is_rival(rows, shop, thing[1:]) and _word_for(rows[thing[1]], thing[2]) == "ahead"
    if not is_tuple_of(3, thing) or thing[0] != "stuck" or not _are_names(thing[1]):
        return False
    _, names, loses = thing
    if not is_tuple_of(len(names), loses) or not all([_is_rival(rows, shop, own) for own in loses]):
        return False
    return all([_is_stuck(rows[own[0]], own[1], name, names) for name, own in zip(names, loses)])


def sure_ahead(telling, shop):
    """Pairs of NAMES of which the first one stands ahead of the second one in each RANK that fits."""
    found = _some_ranks(telling, shop)
    pairs = [(one, other) for one in sorted(found[0]) for other in sorted(found[0]) if one != other]
    return tuple([(one, other) for one, other in pairs if all([own.index(one) < own.index(other) for own in found])])


def can_be_first(telling, shop):
    """The NAMES with which some RANK that fits begins."""
    return tuple(sorted({rank[0] for rank in _some_ranks(telling, shop) if rank != ()}))


def _names_of(rows):
    """The NAMES of all WISHES and answers, ascending."""
    return sorted({name for row in rows for name in names_of_row(row)})


def _some_ranks(telling, shop):
    found = all_ranks(telling, shop)
    if found == []:
        raise CanNot()
    return found


def _rivals_of(loom, number):
    locks = all_by(loom, all_bits(loom), loom.plans[number])
    return [lock for lock in locks if lock != loom.rows[number][2]]


def _tried(loom):
    """Triples (word, row, lock) of what no RANK helps against, and (row, lock, wins, loses) of all open RIVALS."""
    lost, trials = [], []
    for number, row in enumerate(loom.rows):
        if is_unmet(row):
            lost.append(("unmet", number, None))
        for lock in _rivals_of(loom, number):
            word = _word_for(row, lock)
            if word == "ahead":
                lost.append((word, number, lock))
            elif word == "open":
                trials.append((number, lock) + _weighed(row[2], lock))
    return lost, trials


def _word_for(row, lock):
    """Whether the RIVAL lock of row wins "ahead", is "open", or is behind its answer by each RANK."""
    _, wish, answer = row
    if answer is None:
        return "ahead"
    if lot_in(wish, first_unlike(wish, lock, answer)) is None:
        return "open"
    return "ahead" if is_better(wish, lock, answer) else "behind"


def _weighed(answer, lock):
    """The NAMES at which an open RIVAL wins, and those at which it loses."""
    names = unlike_names(lock, answer)
    wins = tuple([name for name in names if is_better_state(state_of(lock, name), state_of(answer, name))])
    return wins, tuple([name for name in names if name not in wins])


def _keeps_out(trial, rank, name):
    """Whether this open RIVAL wins if name stands behind rank."""
    wins, loses = trial[2:]
    return name in wins and not any([own in rank for own in loses])


def _may_follow(rank, name, trials):
    return not any([_keeps_out(own, rank, name) for own in trials])


def _longest_rank(names, trials):
    """The least RANK of names, each the least left that may follow; less than all if none may."""
    rank = ()
    for _ in names:
        fit = [name for name in names if name not in rank and _may_follow(rank, name, trials)]
        rank = rank + tuple(fit[:1])
    return rank


def _are_names(thing):
    """Whether thing is a set, not (), of NAMES."""
    if not isinstance(thing, tuple) or thing == ():
        return False
    return all([is_name(own) for own in thing]) and ascends(thing)


def _is_rival(rows, shop, thing):
    """Whether thing is a triple (row, lock, lent), lock a RIVAL of this ROW, woven of the ROWS lent alone."""
    return is_lent_triple(rows, shop, thing) and thing[1] != rows[thing[0]][2]


def _is_stuck(row, lock, name, names):
    """Whether the RIVAL lock of row is open, wins at name, and loses at none but of names."""
    if _word_for(row, lock) != "open":
        return False
    wins, loses = _weighed(row[2], lock)
    return name in wins and all([own in names for own in loses])
