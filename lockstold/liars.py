"""ROWS to be left out for some SHELF to tell the others."""

from lockstold.checks import check_few, check_rows
from lockstold.errors import CanNot, Unfit
from lockstold.families import bad_family, families_having, largest_of, least_bad_sets, members, whole_family
from lockstold.loom import Loom, all_bits
from lockstold.plain import ascends, is_number_from, is_rows_of
from lockstold.rowsets import are_bad, bits_of, rows_of_bits


def fewest_out(telling, shop):
    """How many ROWS a fewest LEAVING has."""
    return len(_fewest_leavings(telling, shop)[0])


def all_fewest_out(telling, shop):
    """The fewest LEAVINGS, ascending."""
    return _fewest_leavings(telling, shop)


def is_leaving(telling, shop, thing):
    loom = Loom(telling, shop)
    return is_rows_of(len(loom.rows), thing) and not are_bad(loom, all_bits(loom) ^ bits_of(thing))


def suspects(telling, shop):
    """The ROWS that some fewest LEAVING has."""
    return tuple(sorted({number for own in _fewest_leavings(telling, shop) for number in own}))


def blamed(telling, shop):
    """The ROWS that each fewest LEAVING has."""
    found = _fewest_leavings(telling, shop)
    return tuple([number for number in found[0] if all([number in own for own in found])])


def trusted(telling, shop):
    """The ROWS that no fewest LEAVING has."""
    found = suspects(telling, shop)
    return tuple([at for at in range(len(telling)) if at not in found])


def hit_by(telling, shop, number):
    """The least bad sets that have the ROW of this number, ascending."""
    check_rows(telling, (number,))
    found = _least_bad_of_few(telling, shop)
    return sorted([rows_of_bits(bits) for bits in found if bits >> number & 1])


def out_for(telling, shop, kept):
    """How many ROWS have to be left out if none of kept is."""
    check_rows(telling, kept)
    fit, many = _told_family(telling, shop), len(telling)
    for number in kept:
        fit = fit & families_having(many)[number]
    # Some SHELF tells some ROWS with kept among them exactly if kept is not bad itself.
    if fit == 0:
        raise CanNot()
    return many - len(rows_of_bits(largest_of(fit, many)[0]))


def papers_apart(telling, shop):
    """As many least bad sets as can be, no ROW in two."""
    least = {at: [] for at in range(len(telling))}
    for bits in _least_bad_of_few(telling, shop):
        least[bits.bit_length() - 1].append(bits)
    found = _most_apart(least, (1 << len(telling)) - 1, {})
    return tuple(sorted([rows_of_bits(own) for own in found]))


def is_papers_apart(telling, shop, thing):
    loom = Loom(telling, shop)
    many = len(loom.rows)
    if not isinstance(thing, tuple) or not all([is_rows_of(many, own) for own in thing]) or not ascends(thing):
        return False
    numbers = [number for own in thing for number in own]
    return len(set(numbers)) == len(numbers) and all([are_bad(loom, bits_of(own)) for own in thing])


def cheapest_out(telling, shop, doubts):
    """The least that the doubts of the ROWS of a LEAVING add up to."""
    told = _told_family(telling, shop)
    if len(doubts) != len(telling) or not all([is_number_from(1, own) for own in doubts]):
        raise Unfit()
    # For each set of ROWS, at the place that is its number, what their doubts add up to.
    sums = [0]
    for own in doubts:
        sums = sums + [own + other for other in sums]
    return sums[-1] - max([sums[bits] for bits in members(told)])


def _least_bad_of_few(telling, shop):
    check_few(telling)
    return least_bad_sets(Loom(telling, shop))


def _told_family(telling, shop):
    """The family of the sets of ROWS that some SHELF tells: all others are a LEAVING."""
    check_few(telling)
    return whole_family(len(telling)) ^ bad_family(Loom(telling, shop))


def _fewest_leavings(telling, shop):
    many = len(telling)
    found = largest_of(_told_family(telling, shop), many)
    return sorted([rows_of_bits((1 << many) - 1 ^ bits) for bits in found])


def _most_apart(least, bits, known):
    """As many sets of least as can be, by the greatest ROW of each, that are within bits, no ROW in two."""
    if bits == 0:
        return ()
    if bits not in known:
        # The greatest ROW of bits is in none of them, or in one.
        top = bits.bit_length() - 1
        found = [_most_apart(least, bits ^ 1 << top, known)]
        found.extend([_most_apart(least, bits ^ own, known) + (own,) for own in least[top] if own & bits == own])
        known[bits] = max(found, key=len)
    return known[bits]
