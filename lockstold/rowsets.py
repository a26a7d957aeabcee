"""Sets of ROWS, each told by the number that has the bit of each ROW set, and which of them are bad."""

from lockstold.loom import first_lost


def bits_of(numbers):
    bits = 0
    for number in numbers:
        bits = bits | 1 << number
    return bits


def rows_of_bits(bits):
    """The set of the numbers of ROWS whose bits are set, ascending."""
    return tuple([at for at in range(bits.bit_length()) if bits >> at & 1])


def lesser_by_one(bits):
    """The sets with one ROW fewer, the one without the greatest ROW first."""
    return [bits ^ 1 << at for at in range(bits.bit_length() - 1, -1, -1) if bits >> at & 1]


def with_greatest(bits):
    """The sets of ROWS of bits, which has one at least, that have its greatest ROW."""
    top = 1 << bits.bit_length() - 1
    rest, found = bits ^ top, [bits]
    # One less in the bits of rest alone: so each set of these comes once, the last one without any.
    part = rest
    while part > 0:
        part = part - 1 & rest
        found.append(top | part)
    return found


def are_bad(loom, bits):
    """Whether no SHELF tells the ROWS of bits alone."""
    return first_lost(loom, bits) is not None


def are_least_bad(loom, bits):
    # What has a bad part is bad: it is enough to leave out one ROW each.
    return are_bad(loom, bits) and not any([are_bad(loom, own) for own in lesser_by_one(bits)])
