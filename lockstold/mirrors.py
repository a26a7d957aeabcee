"""SHELVES that share a telling: DEALS of its ROWS into sets that one SHELF each may have told."""

from lockstold.checks import check_few, check_most, check_rows
from lockstold.errors import CanNot, Unfit
from lockstold.families import bad_family, least_bad_sets
from lockstold.loom import Loom
from lockstold.plain import ascends, frozen, is_rows_of
from lockstold.rowsets import are_bad, bits_of, rows_of_bits, with_greatest
from lockstold.told import tight_shelf

MOST_DEALT = 7


def can_share(telling, shop, rows):
    """Whether some SHELF of this SHOP tells the ROWS rows."""
    check_rows(telling, rows)
    return not are_bad(Loom(telling, shop), bits_of(rows))


def fewest_mirrors(telling, shop):
    """How many sets a DEAL has at the fewest."""
    return len(dealt(telling, shop))


def dealt(telling, shop):
    """A DEAL of the fewest sets."""
    fewest = _fewest_parts(_bad_to_deal(telling, shop))[-1]
    return tuple(sorted([rows_of_bits(part) for part in fewest]))


def is_dealt(telling, shop, thing):
    loom = Loom(telling, shop)
    many = len(loom.rows)
    if not isinstance(thing, tuple) or not all([own != () and is_rows_of(many, own) for own in thing]):
        return False
    if not ascends(thing) or sorted([number for own in thing for number in own]) != list(range(many)):
        return False
    return not any([are_bad(loom, bits_of(own)) for own in thing])


def how_many_deals(telling, shop, most):
    """How many DEALS there are of at most so many sets."""
    bad = _bad_to_deal(telling, shop)
    # For each set of ROWS how many DEALS of these it has, by how many sets they are of.
    deals = [{0: 1}]
    for bits in range(1, len(bad)):
        found = {}
        for part in [own for own in with_greatest(bits) if not bad[own]]:
            for many, own in deals[bits ^ part].items():
                found[many + 1] = found.get(many + 1, 0) + own
        deals.append(found)
    return sum([own for many, own in deals[-1].items() if many <= most])


def same_mirror(telling, shop, number, other):
    """Whether some DEAL of the fewest sets has both ROWS in one."""
    check_rows(telling, (number, other))
    bad = _bad_to_deal(telling, shop)
    fewest, both = _fewest_parts(bad), bits_of((number, other))
    whole = len(bad) - 1
    rest = [whole ^ part for part, own in enumerate(bad) if not own and part & both == both]
    return any([len(fewest[own]) + 1 == len(fewest[whole]) for own in rest])


def shared_by_all(telling, shop):
    """The ROWS that no least bad set has."""
    check_few(telling)
    bad_rows = {at: True for bits in least_bad_sets(Loom(telling, shop)) for at in rows_of_bits(bits)}
    return tuple([at for at in range(len(telling)) if at not in bad_rows])


def lone_rows(telling, shop):
    """The ROWS that have a SHELF together with no other ROW."""
    apart = _apart_from(Loom(telling, shop))
    whole = (1 << len(apart)) - 1
    return tuple([at for at, bits in enumerate(apart) if bits == whole ^ 1 << at])


def apart_rows(telling, shop):
    """As many ROWS as can be of which no two have a SHELF together."""
    check_few(telling)
    sets = [0]
    for at, bits in enumerate(_apart_from(Loom(telling, shop))):
        sets = sets + [own | 1 << at for own in sets if own & bits == own]
    return max([rows_of_bits(own) for own in sets], key=len)


def is_apart_rows(telling, shop, thing):
    apart = _apart_from(Loom(telling, shop))
    if not is_rows_of(len(apart), thing):
        return False
    return all([apart[at] >> own & 1 == 1 for at in thing for own in thing if own != at])


def mirror_shelves(telling, shop, deal):
    """The tight SHELVES of the sets of deal."""
    rows, parts = frozen(telling), frozen(deal)
    if not is_dealt(rows, shop, parts):
        raise Unfit()
    return [tight_shelf([rows[at] for at in own], shop) for own in parts]


def _bad_to_deal(telling, shop):
    """For each set of ROWS whether it is bad, if these are few enough to go through all DEALS."""
    check_most(telling, MOST_DEALT)
    bad = bad_family(Loom(telling, shop))
    return [bad >> bits & 1 == 1 for bits in range(1 << len(telling))]


def _fewest_parts(bad):
    """For each set of ROWS the parts of a DEAL of these, as few as can be; CanNot if some ROW has none."""
    fewest = [()]
    for bits in range(1, len(bad)):
        found = [fewest[bits ^ part] + (part,) for part in with_greatest(bits) if not bad[part]]
        # A ROW that is bad alone is in no DEAL: whatever set has it for its greatest has no part.
        if found == []:
            raise CanNot()
        fewest.append(min(found, key=len))
    return fewest


def _apart_from(loom):
    """For each ROW the bits of all others with which it has no SHELF together."""
    many = len(loom.rows)
    found = [0] * many
    for at in range(many):
        for own in range(at):
            if are_bad(loom, 1 << at | 1 << own):
                found[at] = found[at] | 1 << own
                found[own] = found[own] | 1 << at
    return found
