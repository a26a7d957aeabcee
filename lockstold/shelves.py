"""SHELVES: which RELEASES are there when, under which RULES, and how a SHELF may change."""

from lockstold.errors import Unfit
from lockstold.plain import ascends, frozen, is_number_from, is_there, is_tuple_of
from lockstold.states import is_name, is_release, is_rules, lot_in, lot_less, lots_joined, rules_with


def is_shelf(thing):
    if not isinstance(thing, tuple) or not all([_is_entry(own) for own in thing]):
        return False
    return ascends([own[0] for own in thing])


def shop_of(shelf):
    days = [own[2:] for own in _fit_shelf(shelf)]
    if all([own == (0, None) for own in days]):
        return "still"
    return "growing" if all([own[1] is None for own in days]) else "short"


def on_shelf(shelf, day):
    return tuple([own[0] for own in _fit_shelf(shelf) if is_there(own, day)])


def turning_days(shelf):
    """The set of all firsts, and of the DAYS behind all lasts."""
    held = _fit_shelf(shelf)
    firsts = [own[2] for own in held]
    return tuple(sorted(set(firsts + [own[3] + 1 for own in held if own[3] is not None])))


def rules_of(shelf, release):
    return _entry_of(_fit_shelf(shelf), release)[1]


def days_of(shelf, release):
    return _entry_of(_fit_shelf(shelf), release)[2:]


def published(shelf, release, rules, day):
    """shelf with release, there from day on, for ever."""
    held, fresh, lots = _fit_shelf(shelf), frozen(release), frozen(rules)
    if not is_release(fresh) or fresh in [own[0] for own in held]:
        raise Unfit()
    if not is_rules(lots) or lot_in(lots, fresh[0]) is not None:
        raise Unfit()
    return _with_entry(held, (fresh, lots, day, None))


def withdrawn(shelf, release, day):
    """shelf with day for the last of release."""
    held = _fit_shelf(shelf)
    entry = _entry_of(held, release)
    if not is_there(entry, day):
        raise Unfit()
    return _with_entry(held, entry[:3] + (day,))


def let_more(shelf, release, name, state):
    """shelf in which the RULES of release let state of name, too."""
    held = _fit_shelf(shelf)
    entry = _entry_of(held, release)
    _check_name(entry, name)
    lot = lot_in(entry[1], name)
    if lot is None:
        return held
    return _with_entry(held, _with_lot(entry, name, lots_joined(lot, (state,))))


def forbidden(shelf, release, name, state):
    """shelf in which the RULES of release do not let state of name."""
    held = _fit_shelf(shelf)
    entry = _entry_of(held, release)
    _check_name(entry, name)
    lot = lot_in(entry[1], name)
    if lot is None:
        lot = (0,) + tuple([own[0][1] for own in held if own[0][0] == name])
    if lot == (state,):
        raise Unfit()
    return _with_entry(held, _with_lot(entry, name, lot_less(lot, state)))


def meet_of(shelf, other):
    """The SHELF on which just those LOCKS stand that stand on both."""
    far = _fit_shelf(other)
    found = []
    for entry in _fit_shelf(shelf):
        found.extend([_entry_of_both(entry, own) for own in far if own[0] == entry[0]])
    return tuple([own for own in found if own is not None])


def is_within(shelf, other):
    held, far = _fit_shelf(shelf), _fit_shelf(other)
    return all([any([_is_entry_within(entry, own) for own in far]) for entry in held])


def unlike_releases(shelf, other):
    """The set of the RELEASES of which just one has such RULES and DAYS, or any."""
    held, far = _fit_shelf(shelf), _fit_shelf(other)
    return tuple(sorted({own[0] for own in held + far if own not in held or own not in far}))


def renamed_shelf(shelf, names):
    """shelf with new for each name of names, everywhere, all at once."""
    held, called = _fit_shelf(shelf), dict(names)
    own_names = [own[0][0] for own in held] + [pair[0] for own in held for pair in own[1]]
    found = sorted(set(own_names))
    if len(set([called.get(name, name) for name in found])) < len(found):
        raise Unfit()
    return tuple(sorted([_renamed_entry(own, called) for own in held]))


def _is_entry(thing):
    """Whether thing can be a quadruple of a SHELF."""
    if not is_tuple_of(4, thing) or not is_release(thing[0]) or not is_rules(thing[1]):
        return False
    if lot_in(thing[1], thing[0][0]) is not None or not is_number_from(0, thing[2]):
        return False
    return thing[3] is None or is_number_from(thing[2], thing[3])


def _fit_shelf(shelf):
    """shelf, made of tuples; Unfit if it is none, ahead of what else there may be to raise."""
    held = frozen(shelf)
    if not is_shelf(held):
        raise Unfit()
    return held


def _entry_of(held, release):
    """The quadruple of release, which ought to be one of those of the SHELF held."""
    wanted = frozen(release)
    found = [own for own in held if own[0] == wanted]
    if not is_release(wanted) or found == []:
        raise Unfit()
    return found[0]


def _check_name(entry, name):
    """name ought to be a NAME, and not the one of the RELEASE of entry."""
    if not is_name(name) or name == entry[0][0]:
        raise Unfit()


def _with_entry(held, entry):
    """The SHELF held with entry, in the place of another one of its RELEASE, if any."""
    return tuple(sorted([own for own in held if own[0] != entry[0]] + [entry]))


def _with_lot(entry, name, lot):
    return entry[:1] + (rules_with(entry[1], name, lot),) + entry[2:]


def _entry_of_both(entry, far):
    """What two quadruples of one RELEASE have in common, None if that is never there."""
    first, last = max(entry[2], far[2]), _earlier(entry[3], far[3])
    rules = _rules_of_both(entry[1], far[1])
    if rules is None or (last is not None and last < first):
        return None
    return (entry[0], rules, first, last)


def _earlier(last, other):
    """The earlier one of two last DAYS, of which None is for ever."""
    if last is None or other is None:
        return other if last is None else last
    return min(last, other)


def _rules_of_both(rules, more):
    """The RULES that let what both let, None if of some NAME they let nothing."""
    found = rules
    for name, lot in more:
        held = lot_in(found, name)
        both = lot if held is None else tuple([state for state in held if state in lot])
        if both == ():
            return None
        found = rules_with(found, name, both)
    return found


def _is_entry_within(entry, wide):
    """Whether wide has the RELEASE of entry on all its DAYS, and lets all that entry lets."""
    if entry[0] != wide[0] or entry[2] < wide[2] or _earlier(entry[3], wide[3]) != entry[3]:
        return False
    return all([_is_lot_within(lot_in(entry[1], name), lot) for name, lot in wide[1]])


def _is_lot_within(lot, wide):
    # RULES without a LOT for a NAME let each STATE of it, so more than any LOT does.
    return lot is not None and all([state in wide for state in lot])


def _renamed_entry(entry, called):
    name, version = entry[0]
    rules = sorted([(called.get(own, own), lot) for own, lot in entry[1]])
    return ((called.get(name, name), version), tuple(rules)) + entry[2:]
