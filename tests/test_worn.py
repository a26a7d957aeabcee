"""[9]: worn.py, beside plain reckonings over all LOCKS, all WISHES and all DAYS that matter."""

import unittest

from helper import (Dice, days_that_matter, locks_over, outcome, plain_answer, plain_best, plain_met, plain_standing,
                    plain_state, versions_of, wish_ok, wishes_over)
from lockstold.errors import CanNot, NoPaper
from lockstold.standing import all_standing
from lockstold.worn import (alike_on, days_alike, is_parting_wish, is_worn, parting_day, parting_wish, told_by_wish, worn,
                            worn_along, worn_pairs)

WISHES = wishes_over({"a": [1, 2], "b": [1, 2]}) + [(("z", (1,)),)]
WIDE = tuple(((name, version), (), 0, None) for name in "abcdef" for version in (1, 2, 3, 4))
LATE = tuple(own[:2] + (8, None) for own in WIDE)
GONE = tuple(own[:2] + (0, 8) for own in WIDE)
FULL = WIDE[:20]
ONE = ((("a", 1), (), 0, None),)


def made_up(many=40, seed=21, names=("a", "b", "c")):
    dice = Dice(seed)
    return [()] + [dice.shelf(names) for _ in range(many)]


def pairs_of_shelves(many=60):
    """Pairs of SHELVES, many of which are alike on some DAYS."""
    dice = Dice(22)
    for _ in range(many):
        one = dice.shelf(("a", "b"), days=3)
        other = list(one)
        for _ in range(dice.pick((0, 1, 1, 2))):
            if other:
                at = dice.pick(range(len(other)))
                release, rules, first, last = other[at]
                other[at] = dice.pick(((release, dice.rules_for(release[0], ("a", "b"), 2, ()), first, last),
                                       (release, rules, first, None), (release, rules, 0, last)))
        yield one, dice.pick((tuple(other), dice.shelf(("a", "b"), days=3), tuple(other)))
    yield (), ()
    yield (), ONE


def plain_worn(locks):
    """The WORN form of a SHELF on which just these LOCKS stand, by the words of [9]."""
    releases = sorted({own for lock in locks for own in lock})
    names = sorted({name for name, _ in releases})
    form = []
    for own in releases:
        rules = [(name, tuple(sorted({plain_state(lock, name) for lock in locks if own in lock})))
                 for name in names if name != own[0]]
        form.append((own, tuple(rules), 0, None))
    return tuple(form)


def plain_alike(one, other, day):
    """Whether both have the same ANSWER to each WISH of their NAMES, and of one more."""
    locks, far = plain_standing(one, day), plain_standing(other, day)
    for wish in WISHES:
        if plain_best(wish, [own for own in locks if plain_met(wish, own)]) != (
                plain_best(wish, [own for own in far if plain_met(wish, own)])):
            return False
    return True


def all_days(stretches, until):
    """What stretches (first, last, value) tell of each DAY below until."""
    return [[own[2] for own in stretches if own[0] <= day and (own[1] is None or day <= own[1])] for day in range(until)]


class WornTest(unittest.TestCase):

    def test_forms_and_pairs(self):
        for shelf in made_up():
            for day in days_that_matter(shelf):
                locks = plain_standing(shelf, day)
                form = plain_worn(locks)
                self.assertEqual(worn(shelf, day), form)
                pairs = {(own, name, plain_state(lock, name)) for lock in locks for own in lock
                         for name in {other[0][0] for other in form} - {own[0]}}
                self.assertEqual(worn_pairs(shelf, day), tuple(sorted(pairs)))

    def test_on_the_form_the_same_stands(self):
        for shelf in made_up(30, 23):
            for day in days_that_matter(shelf)[:6]:
                form = worn(shelf, day)
                self.assertEqual(all_standing(form, 0), plain_standing(shelf, day))
                self.assertEqual(worn(form, 5), form)
                self.assertIs(is_worn(form), True)

    def test_what_is_worn(self):
        seen = set()
        for shelf in made_up(150, 24, ("a", "b")):
            still = tuple(own[:2] + (0, None) for own in shelf)
            for own in (shelf, still):
                wanted = all(entry[2:] == (0, None) for entry in own) and plain_worn(plain_standing(own, 0)) == own
                self.assertIs(is_worn(own), wanted)
                seen.add(wanted)
        self.assertEqual(seen, {True, False})
        self.assertIs(is_worn(ONE), True)
        self.assertIs(is_worn(((("a", 1), (), 1, None),)), False)
        self.assertIs(is_worn(((("a", 1), (), 0, 10 ** 6),)), False)

    def test_what_some_wish_tells(self):
        for shelf in made_up(25, 25, ("a", "b")):
            for day in days_that_matter(shelf)[:5]:
                told = [plain_answer(shelf, wish, day) for wish in WISHES]
                for lock in locks_over({"a": [1, 2, 3], "b": [1, 2], "z": [1]}):
                    self.assertIs(told_by_wish(shelf, day, lock), lock in told)

    def test_an_answer_of_just_its_releases(self):
        for shelf in made_up(25, 26):
            locks = plain_standing(shelf, 2)
            for lock in locks_over(versions_of(shelf)):
                wish = tuple((name, (version,)) for name, version in lock)
                best = plain_best(wish, [own for own in locks if plain_met(wish, own)])
                self.assertEqual(told_by_wish(shelf, 2, lock), best == lock)


class AlikeTest(unittest.TestCase):

    def test_alike_and_parted(self):
        seen = set()
        for one, other in pairs_of_shelves():
            for day in days_that_matter(one, other)[:6]:
                alike = plain_alike(one, other, day)
                seen.add(alike)
                self.assertIs(alike_on(one, other, day), alike)
                self.assertEqual(worn(one, day) == worn(other, day), alike)
                if alike:
                    with self.assertRaises(NoPaper):
                        parting_wish(one, other, day)
                    continue
                wish = parting_wish(one, other, day)
                self.assertTrue(wish_ok(wish))
                self.assertNotEqual(plain_answer(one, wish, day), plain_answer(other, wish, day))
                self.assertIs(is_parting_wish(one, other, day, wish), True)
        self.assertEqual(seen, {True, False})

    def test_parting_wishes(self):
        for one, other in list(pairs_of_shelves(25)):
            for day in days_that_matter(one, other)[1:4]:
                for wish in WISHES[::3]:
                    wanted = plain_answer(one, wish, day) != plain_answer(other, wish, day)
                    self.assertIs(is_parting_wish(one, other, day, wish), wanted)
                    self.assertIs(is_parting_wish(one, other, day, list(wish)), False)

    def test_stretches_of_days(self):
        for one, other in pairs_of_shelves():
            found = days_alike(one, other)
            until = days_that_matter(one, other)[-3] + 3
            alike = [plain_alike(one, other, day) for day in range(until)]
            self.assertEqual([bool(own) for own in all_days([own + (True,) for own in found], until)], alike)
            self.check_ends(found)
            if all(alike):
                self.assertEqual(found, ((0, None),))
                with self.assertRaises(CanNot):
                    parting_day(one, other)
            else:
                self.assertEqual(parting_day(one, other), alike.index(False))

    def check_ends(self, found):
        for at, (first, last) in enumerate(found):
            self.assertTrue(last is None or first <= last)
            # Just the last stretch may have no end, and between two of them there is a DAY at least.
            if at + 1 < len(found):
                self.assertLess(last + 1, found[at + 1][0])

    def test_alike_at_the_end_or_not(self):
        one, other = ((("a", 1), (), 0, 4),), ((("a", 1), (), 2, 9),)
        self.assertEqual(days_alike(one, other), ((2, 4), (10, None)))
        self.assertEqual((parting_day(one, other), parting_day(other, one)), (0, 0))
        self.assertEqual(days_alike(ONE, ()), ())
        self.assertEqual(days_alike(ONE, ((("a", 1), (), 10 ** 6, None),)), ((10 ** 6, None),))
        self.assertEqual(days_alike((), ((("a", 1), (("z", (1,)),), 3, 5),)), ((0, None),))

    def test_along_the_days(self):
        for shelf in made_up(60, 27, ("a", "b")):
            found = worn_along(shelf)
            until = days_that_matter(shelf)[-3] + 3
            wanted = [plain_worn(plain_standing(shelf, day)) for day in range(until)]
            self.assertEqual(all_days(found, until), [[own] for own in wanted])
            self.assertEqual((found[0][0], found[-1][1]), (0, None))
            for (_, last, form), (first, _, more) in zip(found, found[1:]):
                self.assertEqual(last + 1, first)
                self.assertNotEqual(form, more)

    def test_a_day_of_another_form_is_one_on_which_releases_turn(self):
        for shelf in made_up(60, 28):
            turning = {own[2] for own in shelf} | {own[3] + 1 for own in shelf if own[3] is not None}
            for first, _, _ in worn_along(shelf)[1:]:
                self.assertIn(first, turning)


class TooManyTest(unittest.TestCase):

    def too_many(self, function, *given):
        self.assertEqual(outcome(function, *given), ("raised", "TooMany", {}), function.__name__)

    def test_on_the_day_handed_in(self):
        for shelf, day, fine in ((WIDE, 0, ()), (LATE, 8, (7,)), (GONE, 8, (9, 10 ** 9))):
            for own, many in ((day, True),) + tuple((own, False) for own in fine):
                for function, given in ((worn, (shelf, own)), (worn_pairs, (shelf, own)), (told_by_wish, (shelf, own, ())),
                                        (told_by_wish, (shelf, own, None)), (alike_on, (shelf, (), own)),
                                        (alike_on, ((), shelf, own)), (alike_on, (shelf, shelf, own)),
                                        (is_parting_wish, (shelf, (), own, ())), (is_parting_wish, ((), shelf, own, None))):
                    if many:
                        self.too_many(function, *given)
                    else:
                        self.assertEqual(outcome(function, *given)[0], "gave")
                for one, other in ((shelf, ()), ((), shelf), (shelf, shelf)):
                    wanted = ("raised", "TooMany" if many else "NoPaper", {})
                    self.assertEqual(outcome(parting_wish, one, other, own), wanted)

    def test_on_any_day_from_0_on(self):
        for shelf in (WIDE, LATE, GONE):
            self.too_many(worn_along, shelf)
            for one, other in ((shelf, ()), ((), shelf), (ONE, shelf), (shelf, shelf)):
                self.too_many(days_alike, one, other)
                self.too_many(parting_day, one, other)

    def test_ahead_of_a_parting_day_that_comes_first(self):
        far = tuple(own[:2] + (10 ** 6, 10 ** 6) for own in WIDE)
        self.too_many(parting_day, ONE, far)
        self.too_many(days_alike, far, ONE)

    def test_worn_things(self):
        self.too_many(is_worn, WIDE)
        self.too_many(is_worn, tuple(own[:1] + ((("z", (0,)),),) + own[2:] for own in WIDE))
        # These are no still SHELVES: False, however many LOCKS there are.
        for thing in (LATE, GONE, list(WIDE), WIDE[::-1], WIDE + (None,)):
            self.assertIs(is_worn(thing), False)

    def test_not_more_than_3125(self):
        form = worn(FULL, 0)
        self.assertEqual(form[0][1], tuple((name, (0, 1, 2, 3, 4)) for name in "bcde"))
        self.assertEqual((is_worn(FULL), is_worn(form), alike_on(FULL, form, 3)), (False, True, True))
        self.assertEqual(len(worn_pairs(FULL, 0)), 20 * 4 * 5)
        self.assertEqual(days_alike(FULL, form), ((0, None),))
        self.assertEqual(worn_along(FULL), [(0, None, form)])


if __name__ == "__main__":
    unittest.main()
