"""What some ROWS of a TELLING weave, the ROWS told by a number: the bit of each of them is set."""

from lockstold.locks import pairs_of
from lockstold.plain import frozen
from lockstold.search import all_held, first_held, lock_of, steps_by
from lockstold.wishes import is_met


class Loom:
    """What the ROWS of a TELLING tell, kept for asking it of many sets of them, by one SHOP."""

    def __init__(self, telling, shop):
        self.rows = frozen(telling)
        self.kind = shop
        self.having = _bits_having(self.rows)
        self.names = sorted({own[0] for own in self.having})
        self.lending = _bits_lending(self.rows, self.names)
        self.plans = [plan_for(self, row[0], row[1]) for row in self.rows]


def plan_for(loom, day, wish):
    """The steps by which LOCKS that meet wish are woven, and the ends of each RELEASE on day."""
    return plan_by(loom, (), day, wish)


def plan_by(loom, rank, day, wish):
    """The same by the ORDER of a RANK."""
    spans = _spans(loom.rows, loom.kind, day)
    ends = {own: [loom.having[own] & span for span in spans] for own in loom.having}
    choices = {name: [0] for name in loom.names}
    for name, version in ends:
        choices[name].append(version)
    return steps_by(rank, wish, choices), ends


def all_bits(loom):
    return (1 << len(loom.rows)) - 1


def best_by(loom, bits, plan):
    """The best LOCK by plan that is woven of the ROWS of bits, None without."""
    steps, ends = plan
    held = first_held(steps, lambda ahead, part: _goes(loom, bits, ends, ahead, part))
    return None if held is None else lock_of(held)


def all_by(loom, bits, plan):
    """All LOCKS by plan that are woven of the ROWS of bits, ascending."""
    steps, ends = plan
    return sorted([lock_of(held) for held in all_held(steps, lambda ahead, part: _goes(loom, bits, ends, ahead, part))])


def first_lost(loom, bits):
    """The least number of a ROW of bits that is in an AGAINST of the ROWS of bits as its own, None without."""
    for at in range(len(loom.rows)):
        if bits >> at & 1 and is_lost(loom, bits, at):
            return at
    return None


def is_lost(loom, bits, at):
    """Whether the ROW at, one of bits, is in an AGAINST of the ROWS of bits as its own."""
    return is_lost_by(loom, bits, loom.plans[at], at)


def is_lost_by(loom, bits, plan, at):
    """The same if the ORDER of its WISH is the one of plan."""
    row = loom.rows[at]
    # An answer that meets its WISH is woven itself: what is better is the best one then.
    return is_unmet(row) or best_by(loom, bits, plan) != row[2]


def is_unmet(row):
    """Whether the answer of row is a LOCK that does not meet its WISH."""
    return row[2] is not None and not is_met(row[1], row[2])


def can_be_told(telling, shop):
    """Whether some SHELF of this SHOP tells telling."""
    loom = Loom(telling, shop)
    return first_lost(loom, all_bits(loom)) is None


def _bits_having(rows):
    """For each told RELEASE the ROWS that have it."""
    found = {}
    for at, row in enumerate(rows):
        for release in row[2] or ():
            found[release] = found.get(release, 0) | 1 << at
    return found


def _bits_lending(rows, names):
    """For each PAIR of these NAMES that told LOCKS have the ROWS that have it."""
    found = {}
    for at, row in enumerate(rows):
        for pair in pairs_of(row[2] or (), names):
            found[pair] = found.get(pair, 0) | 1 << at
    return found


def _spans(rows, shop, day):
    """Sets of ROWS, of each of which one has to have a RELEASE for it to be there on day."""
    if shop == "still":
        return [(1 << len(rows)) - 1]
    ahead, behind = 0, 0
    for at, row in enumerate(rows):
        ahead = ahead | (1 << at if row[0] <= day else 0)
        behind = behind | (1 << at if row[0] >= day else 0)
    return [ahead] if shop == "growing" else [ahead, behind]


def _goes(loom, bits, ends, held, part):
    """Whether part can be woven of the ROWS of bits, and with each part of held."""
    if part[1] > 0 and not all([own & bits for own in ends[part]]):
        return False
    for other in held:
        if not _is_lent(loom, bits, part, other) or not _is_lent(loom, bits, other, part):
            return False
    return True


def _is_lent(loom, bits, part, other):
    """Whether a ROW of bits has the PAIR of part, if it is a RELEASE that one of them has, and other."""
    # A NAME that none of them tells is away in the ROW that has part, which so lends the PAIR: no need to ask.
    return part[1] == 0 or loom.lending.get((part, other[0], other[1]), 0) & bits != 0
