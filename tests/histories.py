"""All SHELVES of a small universe: the slow search beside which tests lay what the package finds."""

import functools
import itertools

from helper import locks_over, plain_best, plain_met, plain_stands, plain_state, plain_there, subsets

VERSIONS = {"a": (1, 2), "b": (1,)}
RELEASES = (("a", 1), ("a", 2), ("b", 1))
LOCKS = locks_over(VERSIONS)
WISHES = ((), (("a", (1,)),), (("a", (2,)),), (("a", (1, 2)),), (("b", (1,)),), (("a", (1,)), ("b", (1,))),
          (("b", (1,)), ("a", (1, 2))), (("a", (1, 2)), ("b", (1,))), (("b", (1,)), ("a", (2,))))


def spans_of(shop, days):
    if shop == "still":
        return [(0, None)]
    if shop == "growing":
        return [(first, None) for first in days]
    return [(first, last) for first in days for last in days if first <= last]


@functools.lru_cache(None)
def all_shelves(shop, days=(0, 1, 2), strange=False):
    """All SHELVES of RELEASES, alike outside of days; if strange, each RELEASE can also be there and never stand."""
    options = []
    for name, version in RELEASES:
        other = "b" if name == "a" else "a"
        rules = [((other, lot),) for lot in subsets((0,) + VERSIONS[other])]
        rules += [own + (("z", (1,)),) for own in rules if strange]
        options.append([None] + [((name, version), own) + span for own in rules for span in spans_of(shop, days)])
    return [tuple(own for own in picked if own) for picked in itertools.product(*options)]


@functools.lru_cache(None)
def standing_by(there):
    shelf = tuple((release, rules, 0, None) for release, rules in there)
    return tuple(lock for lock in LOCKS if plain_stands(shelf, 0, lock))


def standing(shelf, day):
    """The LOCKS that stand, reckoned once for all SHELVES that have the same RULES then."""
    there = plain_there(shelf, day)
    return standing_by(tuple((own[0], own[1]) for own in shelf if own[0] in there))


@functools.lru_cache(None)
def answer_among(locks, wish):
    return plain_best(wish, [lock for lock in locks if plain_met(wish, lock)])


@functools.lru_cache(None)
def all_histories(shop, days=(0, 1, 2)):
    """What stands on each of days, for all SHELVES, each with the RELEASES of such a SHELF."""
    found = {}
    for shelf in all_shelves(shop, days):
        found[(tuple(standing(shelf, day) for day in days), frozenset(own[0] for own in shelf))] = True
    return list(found)


def history_tells(history, telling):
    """Whether the LOCKS of history, which is about the DAYS 0, 1 .., tell telling."""
    return all(answer_among(history[day], wish) == answer for day, wish, answer in telling)


def shelf_tells(shelf, telling):
    return all(answer_among(standing(shelf, day), wish) == answer for day, wish, answer in telling)


def made_up_telling(dice, shop, rows, lies=0.15, days=(0, 1, 2)):
    """What some SHELF of the universe answers, with some ROWS that lie."""
    history, _ = dice.pick(all_histories(shop, days))
    found = []
    for _ in range(rows):
        day, wish = dice.pick(days), dice.pick(WISHES)
        answer = answer_among(history[day], wish)
        if dice.rolls.random() < lies:
            answer = dice.pick(LOCKS + [None])
        found.append((day, wish, answer))
    return tuple(found)


def lets(rules, name, state):
    return state in dict(rules).get(name, (state,))


def has_on(shelf, release, day):
    return release in plain_there(shelf, day)


def pairs_over():
    """All PAIRS of the universe."""
    for release in RELEASES:
        other = "b" if release[0] == "a" else "a"
        for state in (0,) + VERSIONS[other]:
            yield release, other, state


def has_pair(lock, pair):
    return lock is not None and pair[0] in lock and plain_state(lock, pair[1]) == pair[2]
