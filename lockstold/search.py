"""How LOCKS are put together NAME by NAME, the best STATES first."""

from lockstold.states import from_best, lot_in


def steps_for(wish, choices):
    """For each NAME in the ORDER of wish the parts (name, state) it may have, the best first."""
    return steps_by((), wish, choices)


def steps_by(rank, wish, choices):
    """The same by the ORDER of a RANK, which may have NAMES that choices do not have."""
    order = [own[0] for own in wish] + [name for name in rank if name in choices] + sorted(choices)
    steps = []
    for name in {name: True for name in order}:
        versions = lot_in(wish, name)
        # A NAME of wish that has no choices is not there: its step stays empty.
        states = [state for state in choices.get(name, []) if versions is None or state in versions]
        steps.append([(name, state) for state in from_best(states)])
    return steps


def first_held(steps, goes):
    """The first tuple of one part of each step in which each goes with those ahead, None without."""
    return _held_on((), steps, goes)


def all_held(steps, goes):
    """All tuples of one part of each step in which each goes with those ahead."""
    found = [()]
    for parts in steps:
        found = [held + (part,) for held in found for part in parts if goes(held, part)]
    return found


def lock_of(held):
    """The LOCK that has these parts (name, state)."""
    return tuple(sorted([part for part in held if part[1] > 0]))


def _held_on(held, steps, goes):
    if len(held) == len(steps):
        return held
    for part in steps[len(held)]:
        if goes(held, part):
            found = _held_on(held + (part,), steps, goes)
            if found is not None:
                return found
    return None
