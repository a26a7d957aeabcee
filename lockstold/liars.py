"""ROWS to be left out for some SHELF to tell the others."""

from lockstold.checks import check_few, check_rows
from lockstold.errors import CanNot, Unfit
from lockstold.loom import Loom, all_bits
from lockstold.plain import ascends, is_number_from, is_rows_of
from lockstold.rowsets import all_bad, are_bad, bits_of, least_of_bad, rows_of_bits


def fewest_out(telling, shop):
    """How many ROWS a fewest LEAVING has."""
    return len(_fewest_leavings(telling, shop)[0])


def all_fewest_out(telling, shop):
    """The fewest LEAVINGS, ascending."""
    return _fewest_leavings(telling, shop)


def is_leaving(telling, shop, thing):
    loom = Loom(telling, shop)
    return is_rows_of(len(loom.rows), thing) and not are_bad(loom, all_bits(loom) ^ bits_of(thing))


def suspects(telling, shop):
    """The ROWS that some fewest LEAVING has."""
    return tuple(sorted({number for own in _fewest_leavings(telling, shop) for number in own}))


def blamed(telling, shop):
    """The ROWS that each fewest LEAVING has."""
    found = _fewest_leavings(telling, shop)
    return tuple([number for number in found[0] if all([number in own for own in found])])


def trusted(telling, shop):
    """The ROWS that no fewest LEAVING has."""
    found = suspects(telling, shop)
    return tuple([at for at in range(len(telling)) if at not in found])


def hit_by(telling, shop, number):
    """The least bad sets that have the ROW of this number, ascending."""
    check_rows(telling, (number,))
    found = [rows_of_bits(bits) for bits in least_of_bad(_bad_by_bits(telling, shop))]
    return sorted([own for own in found if number in own])


def out_for(telling, shop, kept):
    """How many ROWS have to be left out if none of kept is."""
    check_rows(telling, kept)
    bits = bits_of(kept)
    many = [len(own) for own in _leavings(telling, shop) if bits_of(own) & bits == 0]
    # No LEAVING spares kept exactly if kept is bad itself.
    if many == []:
        raise CanNot()
    return min(many)


def papers_apart(telling, shop):
    """As many least bad sets as can be, no ROW in two."""
    bad = _bad_by_bits(telling, shop)
    least = least_of_bad(bad)
    # For each set of ROWS the most that stand in it: the greatest ROW of it is in none, or in one of them.
    most = [()]
    for bits in range(1, len(bad)):
        top = 1 << bits.bit_length() - 1
        within = [own for own in least if own & top and own & bits == own]
        most.append(max([most[bits ^ top]] + [most[bits ^ own] + (own,) for own in within], key=len))
    return tuple(sorted([rows_of_bits(own) for own in most[-1]]))


def is_papers_apart(telling, shop, thing):
    loom = Loom(telling, shop)
    many = len(loom.rows)
    if not isinstance(thing, tuple) or not all([is_rows_of(many, own) for own in thing]) or not ascends(thing):
        return False
    numbers = [number for own in thing for number in own]
    return len(set(numbers)) == len(numbers) and all([are_bad(loom, bits_of(own)) for own in thing])


def cheapest_out(telling, shop, doubts):
    """The least that the doubts of the ROWS of a LEAVING add up to."""
    found = _leavings(telling, shop)
    if len(doubts) != len(telling) or not all([is_number_from(1, own) for own in doubts]):
        raise Unfit()
    return min([sum([doubts[number] for number in own]) for own in found])


def _bad_by_bits(telling, shop):
    check_few(telling)
    return all_bad(Loom(telling, shop))


def _leavings(telling, shop):
    """All LEAVINGS."""
    bad = _bad_by_bits(telling, shop)
    whole = len(bad) - 1
    return [rows_of_bits(whole ^ bits) for bits, own in enumerate(bad) if not own]


def _fewest_leavings(telling, shop):
    found = _leavings(telling, shop)
    fewest = min([len(own) for own in found])
    return sorted([own for own in found if len(own) == fewest])
