"""CHANGES of a TELLING: what comes of them, what they break, and the fewest that lead from one to another."""

from lockstold.checks import check_rows
from lockstold.errors import NoRow, Unfit
from lockstold.locks import is_lock, lock_renamed
from lockstold.loom import can_be_told
from lockstold.plain import ascends, frozen, is_number_from, is_tuple_of, names_of_row
from lockstold.tellings import is_row


def is_change(thing):
    if not isinstance(thing, tuple) or len(thing) < 2 or not is_number_from(0, thing[1]):
        return False
    if thing[0] == "back":
        return len(thing) == 2
    if len(thing) != 3:
        return False
    if thing[0] == "told":
        return is_row(thing[2])
    if thing[0] == "shift":
        return is_number_from(0, thing[2])
    return thing[0] == "other" and (thing[2] is None or is_lock(thing[2]))


def changed(telling, change):
    """The TELLING behind change."""
    rows, held = frozen(telling), frozen(change)
    word, number = held[:2]
    _check_number(rows, word, number)
    ahead, behind = rows[:number], rows[number:]
    if word == "told":
        return ahead + held[2:] + behind
    if word == "back":
        return ahead + behind[1:]
    day, wish, answer = behind[0]
    fresh = (held[2], wish, answer) if word == "shift" else (day, wish, held[2])
    return ahead + (fresh,) + behind[1:]


def all_changed(telling, changes):
    """The TELLING behind all of changes."""
    return _along(telling, changes)[-1]


def back_from(telling, change):
    """The CHANGE that leads back to telling."""
    rows = frozen(telling)
    word, number = change[:2]
    _check_number(rows, word, number)
    if word == "told":
        return ("back", number)
    if word == "back":
        return ("told", number, rows[number])
    return (word, number, rows[number][0] if word == "shift" else rows[number][2])


def first_break(telling, shop, changes):
    """The number of the first CHANGE behind which no SHELF tells all any more, None without."""
    fit = [can_be_told(rows, shop) for rows in _along(telling, changes)]
    for at in range(len(changes)):
        if fit[at] and not fit[at + 1]:
            return at
    return None


def rows_without(telling, name):
    """The ROWS that have name neither in their WISH nor in their answer."""
    return tuple([row for row in frozen(telling) if name not in names_of_row(row)])


def days_numbered(telling):
    """telling with 0, 1, .. for its DAYS, in their order."""
    rows = frozen(telling)
    days = sorted({row[0] for row in rows})
    return tuple([(days.index(row[0]),) + row[1:] for row in rows])


def days_turned(telling, day):
    """telling with day less its DAY for each ROW."""
    rows = frozen(telling)
    if any([row[0] > day for row in rows]):
        raise Unfit()
    return tuple([(day - row[0],) + row[1:] for row in rows])


def names_changed(telling, names):
    """telling with each NAME called its new one."""
    rows, called = frozen(telling), dict(names)
    old_names = [name for row in rows for name in names_of_row(row)]
    if not all([name in called for name in old_names]) or not ascends([own[1] for own in names]):
        raise Unfit()
    found = []
    for day, wish, answer in rows:
        fresh = tuple([(called[name], versions) for name, versions in wish])
        found.append((day, fresh, None if answer is None else lock_renamed(answer, names)))
    return tuple(found)


def disputed(telling, shop):
    """The pairs (k, j), k below j, of the numbers of disputed ROWS."""
    rows = frozen(telling)
    pairs = [(k, j) for k in range(len(rows)) for j in range(k + 1, len(rows))]
    return tuple([(k, j) for k, j in pairs if _are_disputed(rows[k], rows[j], shop)])


def fewest_changes(one, other):
    """How many CHANGES lead from one to other at the fewest."""
    return len(changes_between(one, other))


def changes_between(one, other):
    """As few CHANGES as lead from one to other."""
    near, far = frozen(one), frozen(other)
    # For each pair of places the fewest that make what far has from there on of what near has from there on.
    fewest = {}
    for at in range(len(near), -1, -1):
        for to in range(len(far), -1, -1):
            fewest[(at, to)] = min(_ways_on(near, far, at, to, fewest), key=len)
    return fewest[(0, 0)]


def is_changes_between(one, other, thing):
    if not is_tuple_of(fewest_changes(one, other), thing) or not all([is_change(own) for own in thing]):
        return False
    try:
        return all_changed(one, thing) == frozen(other)
    except NoRow:
        return False


def _check_number(rows, word, number):
    """NoRow for a number that is none of a ROW; a told ROW may stand behind all others, too."""
    if word != "told" or number != len(rows):
        check_rows(rows, (number,))


def _along(telling, changes):
    """telling, and what comes of it by each of changes in its turn."""
    found = [frozen(telling)]
    for change in changes:
        found.append(changed(found[-1], change))
    return found


def _are_disputed(one, other, shop):
    return one[1] == other[1] and one[2] != other[2] and (shop == "still" or one[0] == other[0])


def _ways_on(near, far, at, to, fewest):
    """Ways from what near has from at on to what far has from to on: they begin with the ROW of the number to."""
    found = []
    if at < len(near):
        found.append((("back", to),) + fewest[(at + 1, to)])
    if to < len(far):
        found.append((("told", to, far[to]),) + fewest[(at, to + 1)])
    if at < len(near) and to < len(far) and near[at][1] == far[to][1]:
        found.append(_mends(near[at], far[to], to) + fewest[(at + 1, to + 1)])
    # Where both are at their end nothing is left to do.
    return found or [()]


def _mends(row, wanted, number):
    """The CHANGES that make wanted of row, which has the same WISH and this number."""
    shifts = () if row[0] == wanted[0] else (("shift", number, wanted[0]),)
    return shifts + (() if row[2] == wanted[2] else (("other", number, wanted[2]),))
