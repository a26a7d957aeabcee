"""What stands on a SHELF on a DAY, however many LOCKS there are."""

from lockstold.plain import frozen, is_there
from lockstold.search import all_held, first_held, lock_of, steps_by, steps_for


def rules_on(shelf, day):
    """The RULES of each RELEASE that is there on day."""
    return {own[0]: own[1] for own in frozen(shelf) if is_there(own, day)}


def choices_of(rules):
    """The STATES of each NAME: of a NAME that RULES alone have, 0 alone."""
    choices = {name: [0] for release in rules for name in [release[0]] + [pair[0] for pair in rules[release]]}
    for name, version in rules:
        choices[name].append(version)
    return choices


def all_upright(rules, choices):
    """The LOCKS that stand by these RULES, ascending."""
    barred = _barred(rules, choices)
    steps = steps_for((), choices)
    return sorted([lock_of(held) for held in all_held(steps, lambda ahead, part: _goes_with(ahead, barred[part]))])


def best_upright(shelf, day, wish):
    """The ANSWER of shelf to wish on day, without going through all LOCKS."""
    return best_upright_by(shelf, (), day, wish)


def best_upright_by(shelf, rank, day, wish):
    """The ANSWER by a RANK."""
    rules = rules_on(shelf, day)
    choices = choices_of(rules)
    barred = _barred(rules, choices)
    steps = steps_by(rank, wish, choices)
    held = first_held(steps, lambda ahead, part: _goes_with(ahead, barred[part]))
    return None if held is None else lock_of(held)


def _barred(rules, choices):
    """For each NAME and STATE the others beside which it stands in no LOCK, by either's RULES."""
    found = {(name, state): {} for name in choices for state in choices[name]}
    for release in rules:
        for name, lot in rules[release]:
            for part in [(name, state) for state in choices[name] if state not in lot]:
                found[release][part] = True
                found[part][release] = True
    return found


def _goes_with(held, barred):
    return not any([part in barred for part in held])
