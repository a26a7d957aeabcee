"""Families of sets of ROWS, for asking of all sets at once which are bad.

A set is told by the number that has the bit of each ROW of it; a family by the number that has the bit of each set of
it, at the place that is the number of the set.
"""

from lockstold.locks import state_of
from lockstold.loom import is_unmet
from lockstold.rowsets import rows_of_bits


class Families:
    """The families that the ROWS of a Loom have, kept as they are asked for."""

    def __init__(self, loom):
        self.loom = loom
        self.whole = whole_family(len(loom.rows))
        self.each = families_having(len(loom.rows))
        self.meeting = {}
        self.beside = {}


def whole_family(many):
    """The family of all sets of so many ROWS."""
    return (1 << (1 << many)) - 1


def families_having(many):
    """For each of so many ROWS the family of all sets that have it."""
    # By turns come as many sets without the ROW as there are sets of those ahead of it, and as many with it.
    whole = whole_family(many)
    return [whole // ((1 << (1 << at)) + 1) << (1 << at) for at in range(many)]


def families_by_size(many):
    """For each number from 0 to many the family of the sets, of many ROWS, that have so many."""
    found = [1]
    for at in range(many):
        more = [own << (1 << at) for own in found]
        found = [one | other for one, other in zip(found + [0], [0] + more)]
    return found


def largest_of(family, many):
    """Those sets of family, of many ROWS, that have the most ROWS."""
    for sized in reversed(families_by_size(many)):
        if family & sized != 0:
            return members(family & sized)
    return []


def members(family):
    """The sets of family, told by their bits, ascending."""
    found, left = [], family
    while left > 0:
        least = left & -left
        found.append(least.bit_length() - 1)
        left = left ^ least
    return found


def bad_family(loom):
    """The family of all bad sets of ROWS."""
    families, bad = Families(loom), 0
    for at, row in enumerate(loom.rows):
        # Of what is known to be bad nothing has to be woven any more.
        fresh = families.each[at] & ~bad
        bad = bad | (fresh if is_unmet(row) else _losing(families, at, fresh))
    return bad


def least_bad_sets(loom):
    """All least bad sets of ROWS, told by their bits."""
    bad, more = bad_family(loom), 0
    # What has a bad part is bad: so what is bad and not least has one with one ROW fewer.
    for at, having in enumerate(families_having(len(loom.rows))):
        more = more | bad << (1 << at) & having
    return members(bad & ~more)


def _losing(families, at, family):
    """The family of those sets of family, which have the ROW at, that weave a LOCK better than its answer."""
    steps, ends = families.loom.plans[at]
    answer = families.loom.rows[at][2]
    # What has been better at one NAME stays so; beside it the STATES of the answer are gone on with.
    even, better = ((), []) if answer is not None else (None, [((), family)])
    for parts in steps:
        tried = [(held, left, part) for held, left in better for part in parts]
        if even is not None:
            alike = (parts[0][0], state_of(answer, parts[0][0]))
            tried.extend([(even, family, part) for part in parts[:parts.index(alike)]])
            even = even + (alike,)
        grown = [(held + (part,), _left_with(families, ends, held, left, part)) for held, left, part in tried]
        better = [own for own in grown if own[1] != 0]
    found = 0
    for _, left in better:
        found = found | left
    return found


def _left_with(families, ends, held, family, part):
    """The family of those sets of family, which weave held, that weave it with part behind."""
    left = family
    for bits in ends.get(part, []):
        left = left & _meeting(families, bits)
    for other in held:
        left = left & _beside(families, part, other)
    return left


def _meeting(families, bits):
    """The family of the sets that have one of the ROWS of bits."""
    if bits not in families.meeting:
        found = 0
        for at in rows_of_bits(bits):
            found = found | families.each[at]
        families.meeting[bits] = found
    return families.meeting[bits]


def _beside(families, part, other):
    """The family of the sets of which, for part and other to be in one LOCK, the ROWS lend the PAIRS."""
    if (part, other) not in families.beside:
        families.beside[(part, other)] = _lending(families, part, other) & _lending(families, other, part)
    return families.beside[(part, other)]


def _lending(families, part, other):
    # A STATE of 0 has no PAIR. What has a RELEASE and tells no STATE of a NAME lends the PAIR with 0.
    if part[1] == 0:
        return families.whole
    return _meeting(families, families.loom.lending.get((part, other[0], other[1]), 0))
