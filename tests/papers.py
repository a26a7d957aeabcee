"""Plain judges: which things are PAPERS, straight from the words of the points, beside which the package's ones are laid."""

import itertools

from helper import (lock_ok, name_ok, number_ok, plain_all_woven, plain_answer, plain_beats, plain_has, plain_locks, plain_met,
                    plain_names, plain_standing, plain_state, plain_unmet, plain_woven, rows_ok, same, shelf_ok)


def plain_names_of(telling):
    return tuple(sorted({name for row in telling for name, _ in row[1] + (row[2] or ())}))


def state_better(one, other):
    """Of two unlike STATES."""
    return one == 0 or (other > 0 and one > other)


def better_by(wish, rank, lock, far):
    names = [name for name, _ in wish]
    names += [name for name in rank if name not in names]
    names += sorted({name for name, _ in lock + far} - set(names))
    for name in names:
        one, other = plain_state(lock, name), plain_state(far, name)
        if one != other:
            return state_better(one, other)
    return False


def best_by(wish, rank, locks):
    fit = [lock for lock in locks if plain_met(wish, lock)]
    return next((lock for lock in fit if not any(better_by(wish, rank, far, lock) for far in fit)), None)


def plain_fits(telling, shop, rank):
    for row in telling:
        if plain_unmet(row) or best_by(row[1], rank, plain_all_woven(telling, shop, row[0])) != row[2]:
            return False
    return True


def plain_ranks(telling, shop):
    return [own for own in itertools.permutations(plain_names_of(telling)) if plain_fits(telling, shop, own)]


def rival_ok(telling, shop, thing):
    """Whether thing is (row, lock, rows), lock a RIVAL of this ROW woven of these alone."""
    if type(thing) is not tuple or len(thing) != 3 or not number_ok(thing[0], 0) or thing[0] >= len(telling):
        return False
    row = telling[thing[0]]
    if not lock_ok(thing[1]) or not rows_ok(thing[2], len(telling)) or thing[1] == row[2] or not plain_met(row[1], thing[1]):
        return False
    return plain_woven([telling[at] for at in thing[2]], shop, row[0], thing[1])


def unlike_in(names, lock, far):
    return [name for name in names if plain_state(lock, name) != plain_state(far, name)]


def ahead_ok(row, lock):
    if row[2] is None:
        return True
    unlike = unlike_in([name for name, _ in row[1]], lock, row[2])
    return bool(unlike) and state_better(plain_state(lock, unlike[0]), plain_state(row[2], unlike[0]))


def wins_and_loses(row, lock):
    """The NAMES at which an open RIVAL wins and loses, None if it is not open."""
    if row[2] is None or unlike_in([name for name, _ in row[1]], lock, row[2]):
        return None
    unlike = unlike_in(sorted({name for name, _ in lock + row[2]}), lock, row[2])
    wins = [name for name in unlike if state_better(plain_state(lock, name), plain_state(row[2], name))]
    return wins, [name for name in unlike if name not in wins]


def rank_paper_ok(telling, shop, thing):
    """Whether thing is a RANK PAPER, by the words of [18]."""
    if type(thing) is not tuple or len(thing) < 2 or type(thing[0]) is not str:
        return False
    if thing[0] == "unmet":
        return len(thing) == 2 and number_ok(thing[1], 0) and thing[1] < len(telling) and plain_unmet(telling[thing[1]])
    if thing[0] == "ahead":
        return rival_ok(telling, shop, thing[1:]) and ahead_ok(telling[thing[1]], thing[2])
    if thing[0] != "stuck" or len(thing) != 3 or not all(type(own) is tuple for own in thing[1:]):
        return False
    _, names, loses = thing
    if not names or not all(name_ok(own) for own in names) or list(names) != sorted(set(names)) or len(loses) != len(names):
        return False
    for name, own in zip(names, loses):
        found = wins_and_loses(telling[own[0]], own[1]) if rival_ok(telling, shop, own) else None
        if found is None or name not in found[0] or not set(found[1]) <= set(names):
            return False
    return True


def plain_lost(telling, at):
    """Whether the ROW is one of an AGAINST by "growing"."""
    row = telling[at]
    return plain_unmet(row) or any(plain_beats(lock, row) for lock in plain_all_woven(telling, "growing", row[0]))


def with_days(telling, days):
    return tuple((day,) + row[1:] for day, row in zip(days, telling))


def plain_order(telling, order):
    return plain_has(with_days(telling, [order.index(at) for at in range(len(telling))]), "growing")


def plain_knot(telling, rows):
    other = with_days(telling, [0 if at in rows else 1 for at in range(len(telling))])
    return bool(rows) and all(plain_lost(other, at) for at in rows)


def lenders_ok(telling, shop, day, lock, thing):
    """Whether thing are LENDERS of lock."""
    locks = plain_locks(telling)
    pairs = [(own, name, plain_state(lock, name)) for own in lock for name in plain_names(telling) if name != own[0]]
    if type(thing) is not tuple or len(thing) != 2 or not all(type(own) is tuple for own in thing):
        return False
    for part, keys in zip(thing, (list(lock), sorted(pairs))):
        if not all(type(own) is tuple and len(own) == 2 for own in part):
            return False
        if not same(tuple(own[0] for own in part), tuple(keys)):
            return False
    for own, rows in thing[0]:
        if type(rows) is not tuple or len(rows) != (2 if shop == "short" else 1):
            return False
        if not all(number_ok(at, 0) and at < len(telling) and own in locks[at] for at in rows):
            return False
        if shop != "still" and telling[rows[0]][0] > day or shop == "short" and telling[rows[1]][0] < day:
            return False
    return all(number_ok(at, 0) and at < len(telling) and pair[0] in locks[at]
               and plain_state(locks[at], pair[1]) == pair[2] for pair, at in thing[1])


def all_gaps(telling, shop, day, lock):
    """All GAPS of lock."""
    found, locks = [], plain_locks(telling)
    for release in lock:
        days = [row[0] for row, own in zip(telling, locks) if release in own]
        if not days:
            found.append(("never", release))
            continue
        if shop != "still" and min(days) > day:
            found.append(("early", release))
        if shop == "short" and max(days) < day:
            found.append(("late", release))
        found += [("apart", release, name) for name in plain_names(telling) if name != release[0] and not any(
            release in own and plain_state(own, name) == plain_state(lock, name) for own in locks)]
    return found


def teller_ok(shop, telling, thing):
    """Whether thing is a SHELF of shop that tells telling."""
    if not shelf_ok(thing):
        return False
    if shop == "still" and any(own[2:] != (0, None) for own in thing) or shop == "growing" and any(own[3] is not None for own in thing):
        return False
    return all(plain_answer(thing, wish, day) == answer for day, wish, answer in telling)


def plain_worn(shelf, day):
    """The WORN form."""
    locks = plain_standing(shelf, day)
    names, form = sorted({name for lock in locks for name, _ in lock}), []
    for own in sorted({release for lock in locks for release in lock}):
        rules = tuple((name, tuple(sorted({plain_state(lock, name) for lock in locks if own in lock}))) for name in names if name != own[0])
        form.append((own, rules, 0, None))
    return tuple(form)


def rest_of(rows, many):
    return tuple(at for at in range(many) if at not in rows)


def leaving_ok(telling, shop, thing):
    """Whether thing is a LEAVING."""
    return rows_ok(thing, len(telling)) and plain_has([telling[at] for at in rest_of(thing, len(telling))], shop)


def papers_apart_ok(telling, shop, thing):
    """Whether thing are BAD SETS APART."""
    if type(thing) is not tuple or not all(rows_ok(own, len(telling)) for own in thing) or list(thing) != sorted(set(thing)):
        return False
    rows = [at for own in thing for at in own]
    return len(set(rows)) == len(rows) and not any(plain_has([telling[at] for at in own], shop) for own in thing)


def deal_ok(telling, shop, thing):
    """Whether thing is a DEAL."""
    many = len(telling)
    if type(thing) is not tuple or not all(rows_ok(own, many) and own for own in thing) or list(thing) != sorted(thing):
        return False
    return sorted(at for own in thing for at in own) == list(range(many)) and all(
        plain_has([telling[at] for at in own], shop) for own in thing)


def apart_rows_ok(telling, shop, thing):
    """Whether thing is a set of ROWS that are APART."""
    return rows_ok(thing, len(telling)) and not any(
        plain_has([telling[at] for at in own], shop) for own in itertools.combinations(thing, 2))


def rank_ok(telling, thing):
    """Whether thing is a RANK of telling."""
    return type(thing) is tuple and all(name_ok(own) for own in thing) and sorted(thing) == list(plain_names_of(telling))


def day_order_ok(telling, thing):
    """Whether thing is a DAY ORDER."""
    if type(thing) is not tuple or not all(number_ok(own, 0) for own in thing):
        return False
    return sorted(thing) == list(range(len(telling))) and plain_order(telling, thing)


def day_knot_ok(telling, thing):
    """Whether thing is a DAY KNOT."""
    return rows_ok(thing, len(telling)) and plain_knot(telling, thing)
