"""SHELVES that tell a TELLING, what each of them has and lets, and why there are none."""

from lockstold.checks import SHOPS, fit_telling
from lockstold.errors import CanNot, Unfit
from lockstold.lent import is_lent_triple, lent_triple
from lockstold.locks import is_lock, state_of
from lockstold.loom import Loom, all_bits, best_by, can_be_told, first_lost, is_unmet
from lockstold.plain import frozen, is_number_from, is_row_number, is_same, is_tuple_of
from lockstold.shelves import let_more, rules_of
from lockstold.standing import stands
from lockstold.states import is_name, is_release
from lockstold.tellings import (first_told, first_untold, last_told, names_told, pairs_told, releases_told, row_of,
                                rows_with, tells)
from lockstold.wishes import is_better, is_met


def has_shelf(telling, shop):
    """Whether some SHELF of this SHOP tells telling."""
    return can_be_told(fit_telling(telling, shop), shop)


def shops_for(telling):
    """Those SHOPS by which some SHELF tells telling."""
    return tuple([shop for shop in SHOPS if has_shelf(telling, shop)])


def tight_shelf(telling, shop):
    """The TIGHT SHELF, of told RELEASES and told STATES alone."""
    rows = fit_telling(telling, shop)
    _check_told(rows, shop)
    return _tight(rows, shop)


def is_tight_shelf(telling, shop, thing):
    rows = fit_telling(telling, shop)
    return is_same(thing, _tight(rows, shop)) and can_be_told(rows, shop)


def against(telling, shop):
    """An AGAINST of the first ROW that has one."""
    rows = fit_telling(telling, shop)
    loom = Loom(rows, shop)
    lost = first_lost(loom, all_bits(loom))
    if lost is None:
        raise CanNot()
    if is_unmet(rows[lost]):
        return ("unmet", lost)
    lock = best_by(loom, all_bits(loom), loom.plans[lost])
    return ("better",) + lent_triple(rows, shop, lost, lock)


def is_against(telling, shop, thing):
    rows = fit_telling(telling, shop)
    if is_tuple_of(2, thing) and thing[0] == "unmet":
        return is_row_number(len(rows), thing[1]) and is_unmet(rows[thing[1]])
    if not is_tuple_of(4, thing) or thing[0] != "better":
        return False
    return is_lent_triple(rows, shop, thing[1:]) and _beats(thing[2], rows[thing[1]])


def first_clash(telling, shop):
    """The number of the first ROW that no SHELF tells together with all ahead of it, None without."""
    rows = fit_telling(telling, shop)
    loom = Loom(rows, shop)
    for at in range(len(rows)):
        if first_lost(loom, (2 << at) - 1) is not None:
            return at
    return None


def must_have(telling, shop):
    """Triples (release, first, last) of what each SHELF that tells has."""
    return tuple([(own[0], own[2], own[3]) for own in tight_shelf(telling, shop)])


def must_let(telling, shop, release):
    """The RULES of release in the TIGHT SHELF."""
    rows, own = fit_telling(telling, shop), _fit_release(release)
    shelf = tight_shelf(rows, shop)
    if own not in releases_told(rows):
        raise CanNot()
    return rules_of(shelf, own)


def may_forbid(telling, shop, release, name, state):
    """Whether some SHELF that tells has release with RULES that bar this STATE of name."""
    rows, pair = fit_telling(telling, shop), _fit_pair(release, name, state)
    _check_told(rows, shop)
    return rows_with(rows, pair) == ()


def may_let(telling, shop, release, name, state):
    """Whether some SHELF that tells has release with RULES that let this STATE of name."""
    rows, pair = fit_telling(telling, shop), _fit_pair(release, name, state)
    _check_told(rows, shop)
    # What is not told can be on a SHELF so that it never stands.
    return pair[0] not in releases_told(rows) or tells(_widened(rows, shop, pair), rows)


def why_not_let(telling, shop, release, name, state):
    """A pair (row, lock): lock, with the PAIR, would be better than the answer of the ROW row."""
    rows, pair = fit_telling(telling, shop), _fit_pair(release, name, state)
    if may_let(rows, shop, *pair):
        raise CanNot()
    shelf = _widened(rows, shop, pair)
    number = first_untold(shelf, rows)
    return (number, row_of(shelf, rows[number][0], rows[number][1])[2])


def is_why_not_let(telling, shop, release, name, state, thing):
    rows, pair = fit_telling(telling, shop), _fit_pair(release, name, state)
    _check_told(rows, shop)
    if not is_tuple_of(2, thing) or not is_row_number(len(rows), thing[0]) or not is_lock(thing[1]):
        return False
    number, lock = thing
    if pair[0] not in lock or state_of(lock, name) != state or not _beats(lock, rows[number]):
        return False
    # A RELEASE that is not told is not on the TIGHT SHELF.
    if pair[0] not in releases_told(rows):
        return False
    return stands(_widened(rows, shop, pair), rows[number][0], lock)


def _check_told(rows, shop):
    if not can_be_told(rows, shop):
        raise CanNot()


def _fit_release(release):
    own = frozen(release)
    if not is_release(own):
        raise Unfit()
    return own


def _fit_pair(release, name, state):
    """The PAIR of these; Unfit if one of them is not as it ought to be."""
    own = _fit_release(release)
    if not is_name(name) or name == own[0] or not is_number_from(0, state):
        raise Unfit()
    return (own, name, state)


def _tight(rows, shop):
    """The TIGHT SHELF, whether it tells or not."""
    names, found = names_told(rows), []
    lots = {own: {name: {} for name in names if name != own[0]} for own in releases_told(rows)}
    for release, name, state in pairs_told(rows):
        lots[release][name][state] = True
    for release in lots:
        rules = [(name, tuple(sorted(lots[release][name]))) for name in lots[release]]
        first = 0 if shop == "still" else first_told(rows, release)
        found.append((release, tuple(rules), first, last_told(rows, release) if shop == "short" else None))
    return tuple(found)


def _widened(rows, shop, pair):
    """The TIGHT SHELF that lets the PAIR, too."""
    release, name, state = pair
    return let_more(_tight(rows, shop), release, name, state)


def _beats(lock, row):
    """Whether lock meets the WISH of row, and is better than its answer."""
    _, wish, answer = row
    return is_met(wish, lock) and (answer is None or is_better(wish, lock, answer))
