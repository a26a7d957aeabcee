"""What several files of the package need and the interface does not list."""


def frozen(value):
    """value with a tuple in the place of each list, at any depth."""
    if isinstance(value, (list, tuple)):
        return tuple([frozen(part) for part in value])
    return value


def is_number(thing):
    # Python takes True and False for ints; the document does not.
    return isinstance(thing, int) and not isinstance(thing, bool)


def is_number_from(least, thing):
    return is_number(thing) and thing >= least


def is_tuple_of(many, thing):
    return isinstance(thing, tuple) and len(thing) == many


def ascends(things):
    """Whether each of things is greater than the one ahead of it."""
    return all([things[at - 1] < things[at] for at in range(1, len(things))])


def is_set_from(least, thing):
    """Whether thing is a set, not (), of numbers from least on."""
    if not isinstance(thing, tuple) or thing == ():
        return False
    return all([is_number_from(least, own) for own in thing]) and ascends(thing)


def is_number_set(thing):
    """Whether thing is a set, maybe (), of numbers."""
    return isinstance(thing, tuple) and all([is_number(own) for own in thing]) and ascends(thing)


def is_rows_of(many, thing):
    """Whether thing is a set, maybe (), of numbers of ROWS of a TELLING that has so many."""
    return is_number_set(thing) and all([0 <= own < many for own in thing])


def is_same(thing, wanted):
    """Whether thing is wanted, which is made of tuples, numbers, strings and None: True is not 1."""
    if isinstance(wanted, tuple):
        return is_tuple_of(len(wanted), thing) and all([is_same(own, part) for own, part in zip(thing, wanted)])
    return not isinstance(thing, bool) and thing == wanted


def part_of(name, state):
    """The part of a LOCK in which name has state: one RELEASE, or nothing."""
    return ((name, state),) if state > 0 else ()


def is_there(entry, day):
    """Whether the RELEASE of a quadruple of a SHELF is there on day."""
    first, last = entry[2], entry[3]
    return first <= day and (last is None or day <= last)
