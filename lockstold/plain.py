"""What several files of the package need and the interface does not list."""


def frozen(value):
    """value with a tuple in the place of each list, at any depth."""
    if isinstance(value, (list, tuple)):
        return tuple([frozen(part) for part in value])
    return value


def is_number(thing):
    # Python takes True and False for ints; the document does not.
    return isinstance(thing, int) and not isinstance(thing, bool)


def is_number_from(least, thing):
    return is_number(thing) and thing >= least


def is_row_number(many, thing):
    """Whether thing is the number of a ROW of a TELLING that has so many."""
    return is_number_from(0, thing) and thing < many


def is_tuple_of(many, thing):
    return isinstance(thing, tuple) and len(thing) == many


def ascends(things):
    """Whether each of things is greater than the one ahead of it."""
    return all([things[at - 1] < things[at] for at in range(1, len(things))])


def is_set_from(least, thing):
    """Whether thing is a set, not (), of numbers from least on."""
    if not isinstance(thing, tuple) or thing == ():
        return False
    return all([is_number_from(least, own) for own in thing]) and ascends(thing)


def is_number_set(thing):
    """Whether thing is a set, maybe (), of numbers."""
    return isinstance(thing, tuple) and all([is_number(own) for own in thing]) and ascends(thing)


def is_rows_of(many, thing):
    """Whether thing is a set, maybe (), of numbers of ROWS of a TELLING that has so many."""
    return is_number_set(thing) and all([is_row_number(many, own) for own in thing])


def is_same(thing, wanted):
    """Whether thing is wanted, which is made of tuples, numbers, strings and None: True is not 1."""
    if isinstance(wanted, tuple):
        return is_tuple_of(len(wanted), thing) and all([is_same(own, part) for own, part in zip(thing, wanted)])
    return not isinstance(thing, bool) and thing == wanted


def is_better_state(mine, theirs):
    """Of two unlike STATES of a NAME, whether mine is the better one."""
    # Not to be there is better than any VERSION, however great.
    return mine == 0 or mine > theirs > 0


def part_of(name, state):
    """The part of a LOCK in which name has state: one RELEASE, or nothing."""
    return ((name, state),) if state > 0 else ()


def names_of_row(row):
    """The NAMES that stand in a ROW made of tuples, in its WISH and in its answer, some maybe twice."""
    return [part[0] for part in row[1] + (row[2] or ())]


def is_there(entry, day):
    """Whether the RELEASE of a quadruple of a SHELF is there on day."""
    first, last = entry[2], entry[3]
    return first <= day and (last is None or day <= last)


def stretches(starts, values):
    """Triples (first, last, value) of the DAYS from starts on, equal neighbours put together."""
    found = []
    for first, value in zip(starts, values):
        if found and found[-1][2] == value:
            continue
        if found:
            found[-1] = (found[-1][0], first - 1, found[-1][2])
        found.append((first, None, value))
    return found
