"""STATES of a NAME, LOTS of them, and RULES."""

from lockstold.errors import CanNot
from lockstold.plain import ascends, frozen, is_number_from, is_set_from, is_tuple_of


def is_name(thing):
    if not isinstance(thing, str) or not 1 <= len(thing) <= 12:
        return False
    return all(["a" <= sign <= "z" for sign in thing])


def is_release(thing):
    return is_tuple_of(2, thing) and is_name(thing[0]) and is_number_from(1, thing[1])


def is_lot(thing):
    return is_set_from(0, thing)


def is_rules(thing):
    if not isinstance(thing, tuple):
        return False
    if not all([is_tuple_of(2, own) and is_name(own[0]) and is_lot(own[1]) for own in thing]):
        return False
    return ascends([own[0] for own in thing])


def lot_in(rules, name):
    """The LOT that rules have for name, None if they have none."""
    for own, lot in rules:
        if own == name:
            return frozen(lot)
    return None


def is_let(rules, name, state):
    lot = lot_in(rules, name)
    return lot is None or state in lot


def rules_with(rules, name, lot):
    """The RULES with lot for name, in the place of another one, if any."""
    others = [own for own in frozen(rules) if own[0] != name]
    return tuple(sorted(others + [(name, frozen(lot))]))


def lots_joined(lot, more):
    return tuple(sorted(set(frozen(lot) + frozen(more))))


def lots_common(lot, more):
    found = tuple([state for state in lot if state in more])
    if found == ():
        raise CanNot()
    return found


def lot_less(lot, state):
    found = tuple([own for own in lot if own != state])
    if found == ():
        raise CanNot()
    return found


def from_best(lot):
    """The STATES of a LOT, the best first: 0, then the VERSIONS from the greatest down."""
    away = [state for state in lot if state == 0]
    return away + sorted([state for state in lot if state > 0], reverse=True)
