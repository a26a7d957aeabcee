"""What several tests need: the interface, plain reckonings, made-up values."""

import importlib
import itertools
import random
import re
import unittest

# Each file of the interface that has landed, in order, with its functions and their parameters.
INTERFACE = {
    "states": {
        "is_name": ("thing",), "is_release": ("thing",), "is_lot": ("thing",), "is_rules": ("thing",),
        "lot_in": ("rules", "name"), "is_let": ("rules", "name", "state"),
        "rules_with": ("rules", "name", "lot"), "lots_joined": ("lot", "more"),
        "lots_common": ("lot", "more"), "lot_less": ("lot", "state"), "from_best": ("lot",),
    },
    "locks": {
        "is_lock": ("thing",), "state_of": ("lock", "name"), "names_in": ("lock",),
        "lock_with": ("lock", "release"), "lock_without": ("lock", "name"),
        "pairs_of": ("lock", "names"), "shared_lock": ("lock", "other"),
        "unlike_names": ("lock", "other"), "lock_renamed": ("lock", "renames"),
        "all_locks": ("choices",), "lock_number": ("choices", "lock"), "lock_at": ("choices", "number"),
    },
    "wishes": {
        "is_wish": ("thing",), "is_met": ("wish", "lock"), "first_unmet": ("wish", "lock"),
        "order_of": ("wish", "names"), "is_better": ("wish", "lock", "far"),
        "first_unlike": ("wish", "lock", "far"), "best_of": ("wish", "locks"),
        "locks_from_best": ("wish", "locks"), "all_that_meet": ("wish", "locks"),
        "best_that_meets": ("wish", "locks"), "just_wish": ("lock",),
        "narrowed": ("wish", "name", "versions"), "both_wishes": ("one", "two"),
    },
    "shelves": {
        "is_shelf": ("thing",), "shop_of": ("shelf",), "on_shelf": ("shelf", "day"),
        "turning_days": ("shelf",), "rules_of": ("shelf", "release"), "days_of": ("shelf", "release"),
        "published": ("shelf", "release", "rules", "day"), "withdrawn": ("shelf", "release", "day"),
        "let_more": ("shelf", "release", "name", "state"),
        "forbidden": ("shelf", "release", "name", "state"), "meet_of": ("shelf", "other"),
        "is_within": ("shelf", "other"), "unlike_releases": ("shelf", "other"),
        "renamed_shelf": ("shelf", "names"),
    },
    "standing": {
        "stands": ("shelf", "day", "lock"), "why_falls": ("shelf", "day", "lock"),
        "is_why_falls": ("shelf", "day", "lock", "thing"), "all_standing": ("shelf", "day"),
        "how_many_stand": ("shelf", "day"), "answer_of": ("shelf", "wish", "day"),
        "answers_on": ("shelf", "wishes", "day"), "can_be_there": ("shelf", "day", "release"),
        "can_be_together": ("shelf", "day", "one", "other"), "never_there": ("shelf", "day"),
        "needed_by": ("shelf", "day", "release"),
    },
    "worn": {
        "worn": ("shelf", "day"), "is_worn": ("thing",), "worn_pairs": ("shelf", "day"),
        "told_by_wish": ("shelf", "day", "thing"), "alike_on": ("one", "other", "day"),
        "parting_wish": ("one", "other", "day"), "is_parting_wish": ("one", "other", "day", "thing"),
        "days_alike": ("one", "other"), "parting_day": ("one", "other"), "worn_along": ("shelf",),
    },
    "tellings": {
        "is_row": ("thing",), "is_telling": ("thing",), "names_told": ("telling",), "releases_told": ("telling",),
        "told_by": ("telling", "release"), "first_told": ("telling", "release"), "last_told": ("telling", "release"),
        "pairs_told": ("telling",), "rows_with": ("telling", "pair"), "row_of": ("shelf", "day", "wish"),
        "telling_of": ("shelf", "asked"), "tells": ("shelf", "telling"), "first_untold": ("shelf", "telling"),
        "on_days": ("telling", "since", "until"), "merged": ("one", "other"), "each_once": ("telling",),
    },
    "woven": {
        "is_woven": ("telling", "shop", "day", "lock"), "lenders": ("telling", "shop", "day", "lock"),
        "is_lenders": ("telling", "shop", "day", "lock", "thing"), "rows_lent": ("told",),
        "gap": ("telling", "shop", "day", "lock"), "is_gap": ("telling", "shop", "day", "lock", "thing"),
        "all_woven": ("telling", "shop", "day"), "new_woven": ("telling", "shop", "day"),
        "woven_more": ("telling", "more", "shop", "day"), "best_woven": ("telling", "shop", "day", "wish"),
        "woven_days": ("telling", "shop", "lock"),
    },
    "told": {
        "has_shelf": ("telling", "shop"), "shops_for": ("telling",), "tight_shelf": ("telling", "shop"),
        "is_tight_shelf": ("telling", "shop", "thing"), "against": ("telling", "shop"),
        "is_against": ("telling", "shop", "thing"), "first_clash": ("telling", "shop"),
        "must_have": ("telling", "shop"), "must_let": ("telling", "shop", "release"),
        "may_forbid": ("telling", "shop", "release", "name", "state"),
        "may_let": ("telling", "shop", "release", "name", "state"),
        "why_not_let": ("telling", "shop", "release", "name", "state"),
        "is_why_not_let": ("telling", "shop", "release", "name", "state", "thing"),
    },
    "fewrows": {
        "is_bad": ("telling", "shop", "rows"), "is_least_bad": ("telling", "shop", "thing"),
        "all_least_bad": ("telling", "shop"), "least_bad": ("telling", "shop"), "bad_with": ("telling", "shop", "row"),
        "hurts": ("telling", "shop", "row"), "shrunk": ("telling", "shop", "rows"), "freed_by": ("telling", "shop"),
        "rows_of": ("telling", "shop", "found"), "row_bound": ("many", "shop"),
    },
    "middles": {
        "middle": ("one", "other", "third"), "are_closed": ("locks",), "open_triple": ("locks",),
        "is_open_triple": ("locks", "thing"), "closed_up": ("locks",), "common_lock": ("locks",),
        "woven_beyond": ("telling", "shop", "day"), "told_whole": ("telling",),
    },
    "tomorrow": {
        "can_answer": ("telling", "shop", "day", "wish", "given"),
        "why_not_answer": ("telling", "shop", "day", "wish", "given"),
        "is_why_not_answer": ("telling", "shop", "day", "wish", "given", "thing"),
        "possible_answers": ("telling", "shop", "day", "wish"),
        "possible_states": ("telling", "shop", "day", "wish", "name"),
        "sure_states": ("telling", "shop", "day", "wish"), "sure_answer": ("telling", "shop", "day", "wish"),
        "parting_wishes": ("telling", "shop", "day", "wishes"), "best_question": ("telling", "shop", "day", "wishes"),
        "is_settled": ("telling", "shop", "day", "wishes"), "told_next": ("telling", "shop", "day", "wish", "given"),
        "narrowed_by": ("telling", "shop", "day", "wish", "given", "later"),
    },
    "liars": {
        "fewest_out": ("telling", "shop"), "all_fewest_out": ("telling", "shop"),
        "is_leaving": ("telling", "shop", "thing"), "suspects": ("telling", "shop"), "blamed": ("telling", "shop"),
        "trusted": ("telling", "shop"), "hit_by": ("telling", "shop", "number"), "out_for": ("telling", "shop", "kept"),
        "papers_apart": ("telling", "shop"), "is_papers_apart": ("telling", "shop", "thing"),
        "cheapest_out": ("telling", "shop", "doubts"),
    },
    "mirrors": {
        "can_share": ("telling", "shop", "rows"), "fewest_mirrors": ("telling", "shop"), "dealt": ("telling", "shop"),
        "is_dealt": ("telling", "shop", "thing"), "how_many_deals": ("telling", "shop", "most"),
        "same_mirror": ("telling", "shop", "number", "other"), "shared_by_all": ("telling", "shop"),
        "lone_rows": ("telling", "shop"), "apart_rows": ("telling", "shop"),
        "is_apart_rows": ("telling", "shop", "thing"), "mirror_shelves": ("telling", "shop", "deal"),
    },
    "ranks": {
        "is_rank": ("telling", "thing"), "answer_by": ("shelf", "rank", "day", "wish"),
        "rivals": ("telling", "shop", "row"), "fits_rank": ("telling", "shop", "rank"), "all_ranks": ("telling", "shop"),
        "least_rank": ("telling", "shop"), "rank_paper": ("telling", "shop"),
        "is_rank_paper": ("telling", "shop", "thing"), "sure_ahead": ("telling", "shop"),
        "can_be_first": ("telling", "shop"),
    },
    "windows": {
        "window_of": ("telling", "release"), "earliest_day": ("telling", "shop", "release"),
        "latest_day": ("telling", "shop", "release"), "gone_rows": ("telling", "shop", "release"),
        "days_for": ("telling", "shop", "row"), "shop_needed": ("telling",), "day_order": ("telling",),
        "is_day_order": ("telling", "thing"), "day_knot": ("telling",), "is_day_knot": ("telling", "thing"),
    },
    "changes": {
        "is_change": ("thing",), "changed": ("telling", "change"), "all_changed": ("telling", "changes"),
        "back_from": ("telling", "change"), "first_break": ("telling", "shop", "changes"),
        "rows_without": ("telling", "name"), "days_numbered": ("telling",), "days_turned": ("telling", "day"),
        "names_changed": ("telling", "names"), "disputed": ("telling", "shop"), "fewest_changes": ("one", "other"),
        "changes_between": ("one", "other"), "is_changes_between": ("one", "other", "thing"),
    },
    "judge": {
        "is_claim": ("thing",), "is_so": ("claim",), "paper": ("claim",), "is_paper": ("claim", "thing"),
        "shows": ("claim", "thing"), "not_so": ("claims",), "words_so": ("claims",),
    },
    "texts": {
        "shelf_text": ("shelf",), "lock_text": ("lock",), "wish_text": ("wish",), "telling_text": ("telling",),
        "read_shelf": ("text",), "read_lock": ("text",), "read_wish": ("text",), "read_telling": ("text",),
    },
    "yard": {},
    "desk": {"is_request": ("line",), "replies": ("shop", "text"), "last_yard": ("shop", "text")},
}

# Each class of the interface, but those of errors, by its file: its constructor's parameters and its methods' ones.
CLASSES = {
    "yard": {"Yard": {
        "__init__": ("shop",), "do": ("edit",), "undo": (), "redo": (), "twin": (), "edits": (), "telling": (), "shop": (),
        "can_be": (), "tight": (), "rows_out": (), "may_tell": ("day", "wish", "answer"), "__len__": (), "__eq__": ("other",),
    }},
}

SHOPS = ("still", "growing", "short")

# Each error class with its direct base class and the values that its constructor takes.
ERRORS = {
    "NoRow": (LookupError, ("number",)), "NoWord": (LookupError, ("word",)),
    "NothingDone": (LookupError, ()), "Unfit": (ValueError, ()), "NoPaper": (ValueError, ()),
    "CanNot": (ValueError, ()), "TooMany": (ValueError, ()), "BadText": (ValueError, ("line",)),
}


def everything():
    """All names of the interface that have landed, with what they mean."""
    found = {}
    for name in ERRORS:
        found[name] = getattr(importlib.import_module("lockstold.errors"), name)
    for file, functions in INTERFACE.items():
        for name in [*functions, *CLASSES.get(file, ())]:
            found[name] = getattr(importlib.import_module("lockstold." + file), name)
    return found


# Values: how they are changed and compared.

def listed(value):
    """value with a list for each tuple, at any depth."""
    return [listed(part) for part in value] if isinstance(value, (list, tuple)) else value


def tupled(value):
    return tuple(tupled(part) for part in value) if isinstance(value, (list, tuple)) else value


def mixed(value, as_list=True):
    """value with lists and tuples by turns, from the outside in."""
    if not isinstance(value, (list, tuple)):
        return value
    return (list if as_list else tuple)(mixed(part, not as_list) for part in value)


def same(one, other):
    """Whether both are one, of the same kinds at any depth: True is not 1, a list is no tuple."""
    if type(one) is not type(other):
        return False
    if isinstance(one, (list, tuple)):
        return len(one) == len(other) and all(same(a, b) for a, b in zip(one, other))
    return one == other


def deep(value, levels):
    for _ in range(levels):
        value = (value,)
    return value


ODD_THINGS = [
    None, True, False, 0, 1, -1, 2, 7, 10 ** 6, 10 ** 30, "", "a", "lib", "A", "a1", "a b", "still", "lacking",
    "barred", "abcdefghijkl", "abcdefghijklm", "\u00e9", "\u212a", "a\n", (), [], (0,), (1,), (0, 1), (2, 1), (1, 1),
    [0, 1], ("a",), ("a", 1), ("a", 0), ("a", True), ["a", 1], (("a", 1),), [("a", 1)], (["a", 1],),
    ("a", (1,)), (("a", (1,)),), (("a", (0,)),), (("a", ()),), (("a", [1]),), (("a", 1), (), 0, None),
    ((("a", 1), (), 0, None),), ((("a", 1), (), 0, False),), deep(1, 12), deep("a", 11), deep((), 12), deep(None, 5),
]


def mutants(value):
    """value, and values with one place of it made odd, as a `thing` may be."""
    yield value
    for odd in ODD_THINGS:
        yield odd
    yield from _mutants_within(value)


def _mutants_within(value):
    if isinstance(value, bool) or value is None:
        yield from (0, 1, "a", ())
    elif isinstance(value, int):
        yield from (True, False, None, -value, value + 1, value - 1, -1, str(value), (value,), [value])
    elif isinstance(value, str):
        yield from (value + "a", value + "1", value.upper(), "", value * 13, (value,), list(value), tuple(value), 1)
        yield value + "abcdefghijkl"[len(value):]
        yield None
    elif isinstance(value, tuple):
        yield list(value)
        yield listed(value)
        yield value[::-1]
        yield (value,)
        yield value + value[-1:]
        yield value + (None,)
        yield value + ((),)
        for at, part in enumerate(value):
            yield value[:at] + value[at + 1:]
            for odd in (None, True, 0, 1, "a", (), []):
                yield value[:at] + (odd,) + value[at + 1:]
            for own in _mutants_within(part):
                yield value[:at] + (own,) + value[at + 1:]


class JudgeCase(unittest.TestCase):
    """Tests of functions that judge a `thing`."""

    def check(self, asked, wanted, seeds):
        """asked is True of just the things of which wanted is, seeds and what comes of them."""
        seen = {True: 0, False: 0}
        for seed in seeds:
            for thing in mutants(seed):
                found = asked(thing)
                self.assertIs(found, bool(wanted(thing)), repr(thing))
                seen[found] += 1
        self.assertTrue(seen[True] and seen[False], seen)


# What is what, reckoned plainly and by kinds alone.

def number_ok(thing, least):
    return type(thing) is int and thing >= least


def name_ok(thing):
    return type(thing) is str and re.fullmatch("[a-z]{1,12}", thing) is not None


def release_ok(thing):
    return type(thing) is tuple and len(thing) == 2 and name_ok(thing[0]) and number_ok(thing[1], 1)


def set_ok(thing, least):
    if type(thing) is not tuple or len(thing) == 0:
        return False
    return all(number_ok(own, least) for own in thing) and list(thing) == sorted(set(thing))


def pairs_ok(thing, least):
    if type(thing) is not tuple:
        return False
    return all(type(own) is tuple and len(own) == 2 and name_ok(own[0]) and set_ok(own[1], least) for own in thing)


def rules_ok(thing):
    return pairs_ok(thing, 0) and [own[0] for own in thing] == sorted({own[0] for own in thing})


def wish_ok(thing):
    return pairs_ok(thing, 1) and len({own[0] for own in thing}) == len(thing)


def lock_ok(thing):
    if type(thing) is not tuple or not all(release_ok(own) for own in thing):
        return False
    return [own[0] for own in thing] == sorted({own[0] for own in thing})


def shelf_ok(thing):
    if type(thing) is not tuple:
        return False
    for own in thing:
        if type(own) is not tuple or len(own) != 4 or not release_ok(own[0]) or not rules_ok(own[1]):
            return False
        if own[0][0] in dict(own[1]) or not number_ok(own[2], 0):
            return False
        if own[3] is not None and not number_ok(own[3], own[2]):
            return False
    releases = [own[0] for own in thing]
    return releases == sorted(set(releases))


def row_ok(thing):
    if type(thing) is not tuple or len(thing) != 3 or not number_ok(thing[0], 0) or not wish_ok(thing[1]):
        return False
    return thing[2] is None or lock_ok(thing[2])


def telling_ok(thing):
    return type(thing) is tuple and all(row_ok(own) for own in thing)


def rows_ok(thing, many):
    """Whether thing is a set, maybe (), of numbers of ROWS of a TELLING of so many."""
    if type(thing) is not tuple or not all(number_ok(own, 0) and own < many for own in thing):
        return False
    return list(thing) == sorted(set(thing))


# What stands, and what is better, straight from the words of [3].

def plain_state(lock, name):
    return dict(lock).get(name, 0)


def locks_over(versions):
    """All LOCKS of the VERSIONS that a dict tells for each NAME."""
    names = sorted(versions)
    found = []
    for states in itertools.product(*[[0] + list(versions[name]) for name in names]):
        found.append(tuple((name, state) for name, state in zip(names, states) if state))
    return found


def wishes_over(versions, most=3):
    """All WISHES of at most most NAMES over the VERSIONS that a dict tells for each NAME."""
    found = []
    for many in range(most + 1):
        for names in itertools.permutations(sorted(versions), many):
            for sets in itertools.product(*[subsets(versions[name]) for name in names]):
                found.append(tuple(zip(names, sets)))
    return found


def subsets(values):
    """All sets, but (), of values."""
    values = sorted(values)
    return [own for many in range(1, len(values) + 1) for own in itertools.combinations(values, many)]


def plain_met(wish, lock):
    return all(plain_state(lock, name) in versions for name, versions in wish)


def plain_better(wish, lock, far):
    own = [name for name, _ in wish]
    others = {name for name, _ in tuple(lock) + tuple(far)} - set(own)
    for name in own + sorted(others):
        mine, theirs = plain_state(lock, name), plain_state(far, name)
        if mine != theirs:
            if mine == 0:
                return True
            return theirs > 0 and mine > theirs
    return False


def plain_best(wish, locks):
    for lock in locks:
        if not any(plain_better(wish, far, lock) for far in locks):
            return lock
    return None


def plain_there(shelf, day):
    found = {}
    for release, rules, first, last in shelf:
        if day >= first and (last is None or day <= last):
            found[release] = dict(rules)
    return found


def plain_stands(shelf, day, lock):
    there = plain_there(shelf, day)
    for release in lock:
        if release not in there:
            return False
        for name, lot in there[release].items():
            if plain_state(lock, name) not in lot:
                return False
    return True


def versions_of(*shelves):
    found = {}
    for shelf in shelves:
        for (name, version), _, _, _ in shelf:
            found.setdefault(name, set()).add(version)
    return found


def plain_standing(shelf, day):
    """All LOCKS that stand, ascending."""
    return sorted(lock for lock in locks_over(versions_of(shelf)) if plain_stands(shelf, day, lock))


def plain_answer(shelf, wish, day):
    return plain_best(wish, [lock for lock in plain_standing(shelf, day) if plain_met(wish, lock)])


# What is woven, and which ROWS some SHELF tells, straight from the words of [3].

def plain_locks(telling):
    """The told LOCKS, () for the answer None."""
    return [row[2] or () for row in telling]


def plain_names(telling):
    return sorted({name for lock in plain_locks(telling) for name, _ in lock})


def told_versions(telling):
    found = {}
    for lock in plain_locks(telling):
        for name, version in lock:
            found.setdefault(name, set()).add(version)
    return found


def plain_woven(telling, shop, day, lock):
    locks, names = plain_locks(telling), plain_names(telling)
    for release in lock:
        days = [row[0] for row, own in zip(telling, locks) if release in own]
        if not days or (shop != "still" and min(days) > day) or (shop == "short" and max(days) < day):
            return False
        for name in names:
            state = plain_state(lock, name)
            if name != release[0] and not any(release in own and plain_state(own, name) == state for own in locks):
                return False
    return True


def plain_all_woven(telling, shop, day):
    return sorted(lock for lock in locks_over(told_versions(telling)) if plain_woven(telling, shop, day, lock))


def plain_unmet(row):
    return row[2] is not None and not plain_met(row[1], row[2])


def plain_beats(lock, row):
    """Whether lock meets the WISH of row, and is better than its answer."""
    return plain_met(row[1], lock) and (row[2] is None or plain_better(row[1], lock, row[2]))


def plain_has(telling, shop):
    """Whether there is no AGAINST."""
    for row in telling:
        if plain_unmet(row) or any(plain_beats(lock, row) for lock in plain_all_woven(telling, shop, row[0])):
            return False
    return True


def plain_tight(telling, shop):
    """The TIGHT SHELF, whether it tells or not."""
    found, locks = [], plain_locks(telling)
    for release in sorted({own for lock in locks for own in lock}):
        days = [row[0] for row, own in zip(telling, locks) if release in own]
        rules = tuple((name, tuple(sorted({plain_state(own, name) for own in locks if release in own})))
                      for name in plain_names(telling) if name != release[0])
        first, last = (0 if shop == "still" else min(days)), (max(days) if shop == "short" else None)
        found.append((release, rules, first, last))
    return tuple(found)


def against_ok(telling, shop, thing):
    """Whether thing is an AGAINST, by the words of [3]."""
    if type(thing) is not tuple or len(thing) < 2 or not number_ok(thing[1], 0) or thing[1] >= len(telling):
        return False
    row = telling[thing[1]]
    if same(thing[0], "unmet"):
        return len(thing) == 2 and plain_unmet(row)
    if not same(thing[0], "better") or len(thing) != 4:
        return False
    if not lock_ok(thing[2]) or not rows_ok(thing[3], len(telling)) or not plain_beats(thing[2], row):
        return False
    return plain_woven([telling[at] for at in thing[3]], shop, row[0], thing[2])


def all_sets(many):
    """All sets of so many numbers of ROWS."""
    return [own for size in range(many + 1) for own in itertools.combinations(range(many), size)]


def all_deals(many):
    """All ways to put so many numbers of ROWS in sets, each one in just one of them."""
    found = [()]
    for at in range(many):
        found = [own[:k] + (part + (at,),) + own[k + 1:] for own in found for k, part in enumerate(own)] + (
            [own + ((at,),) for own in found])
    return sorted(tuple(sorted(own)) for own in found)


def least_of(sets):
    """Those of sets of which no lesser part is among them, ascending."""
    return sorted(own for own in sets if not any(set(other) < set(own) for other in sets))


def plain_bad(telling, shop):
    """All bad sets of ROWS."""
    return [own for own in all_sets(len(telling)) if not plain_has([telling[at] for at in own], shop)]


def days_that_matter(*shelves):
    """Each DAY at which anything changes, those beside it, and one far out."""
    found = {0, 10 ** 6, 10 ** 9}
    for shelf in shelves:
        for _, _, first, last in shelf:
            for day in (first, first if last is None else last):
                found |= {day - 1, day, day + 1}
    return sorted(day for day in found if day >= 0)


# Made-up values, the same ones in each run.

class Dice:
    def __init__(self, seed):
        self.rolls = random.Random(seed)

    def pick(self, values):
        return self.rolls.choice(list(values))

    def some(self, values, least=0):
        values = sorted(values)
        return tuple(sorted(self.rolls.sample(values, self.rolls.randint(min(least, len(values)), len(values)))))

    def lock(self, names=("a", "b", "c"), most=3):
        return tuple((name, self.rolls.randint(1, most)) for name in self.some(names))

    def rules(self, names=("a", "b", "c"), most=2):
        return tuple((name, self.some(range(most + 1), 1)) for name in self.some(names))

    def wish(self, names=("a", "b", "c"), most=3):
        own = list(self.some(names)) if isinstance(names, tuple) else list(names)
        self.rolls.shuffle(own)
        return tuple((name, self.some(range(1, most + 1), 1)) for name in own)

    def shelf(self, names=("a", "b", "c"), most=2, days=6, strange=("z",)):
        """A SHELF of names, some of whose RULES are about strange NAMES, too."""
        found = []
        for name in names:
            for version in range(1, most + 1):
                if self.rolls.random() < 0.75:
                    first = self.pick((0, 0, self.rolls.randint(0, days)))
                    last = self.pick((None, None, self.rolls.randint(first, days + 2)))
                    found.append(((name, version), self.rules_for(name, names, most, strange), first, last))
        return tuple(found)

    def telling(self, names=("a", "b", "c"), most=2, rows=4, days=3, lies=0.2, shop=None):
        """What a made-up SHELF answers, with some ROWS that lie."""
        shelf, found = self.strict_shelf(names, most, days, shop), []
        for _ in range(self.rolls.randint(rows // 2, rows)):
            many = min(self.pick((0, 1, 1, 1, 2, 2, 3)), len(names))
            day, wish = self.rolls.randint(0, days), self.wish(self.rolls.sample(names, many), most)
            answer = plain_answer(shelf, wish, day)
            if self.rolls.random() < lies:
                answer = self.pick((None, self.lock(names, most), just_like(self, wish, answer),
                                    just_like(self, wish, answer)))
            found.append((day, wish, answer))
        return tuple(found)

    def strict_shelf(self, names, most, days, shop):
        """A SHELF, of this SHOP if one is told, whose RELEASES often need others."""
        found = []
        for name in names:
            for version in range(1, most + 1):
                if self.rolls.random() < 0.85:
                    rules = tuple((other, self.some(range(self.pick((0, int(other > name))), most + 1), 1))
                                  for other in sorted(names) if other != name and self.rolls.random() < 0.6)
                    first = 0 if shop == "still" else self.pick((0, 0, self.rolls.randint(0, days)))
                    last = None if shop in ("still", "growing") else self.pick((None, self.rolls.randint(first, days)))
                    found.append(((name, version), rules, first, last))
        return tuple(found)

    def rules_for(self, own, names, most, strange):
        found = []
        for name in sorted(names):
            if name != own and self.rolls.random() < 0.5:
                found.append((name, self.some(range(most + 1), 2)))
        if strange and self.rolls.random() < 0.1:
            found.append((strange[0], self.pick(((0,), (1,), (0, 1)))))
        return tuple(sorted(found))


def just_like(dice, wish, answer):
    """A LOCK that meets wish, much like answer."""
    states = dict(answer or ())
    states.update({name: dice.pick(versions) for name, versions in wish})
    return tuple(sorted(states.items()))


def outcome(function, *given, **named):
    """("gave", value), or ("raised", name of the error, its values)."""
    try:
        return "gave", function(*given, **named)
    except (LookupError, ValueError) as error:
        return "raised", type(error).__name__, vars(error)
