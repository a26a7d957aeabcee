"""[8]: standing.py, beside plain reckonings over all LOCKS and all DAYS that matter."""

import unittest

from helper import (Dice, days_that_matter, locks_over, outcome, plain_answer, plain_standing, plain_stands, plain_state,
                    plain_there, wishes_over)
from lockstold.errors import CanNot, NoPaper, TooMany
from lockstold.standing import (all_standing, answer_of, answers_on, can_be_there, can_be_together, how_many_stand,
                                is_why_falls, needed_by, never_there, stands, why_falls)

VERSIONS = {"a": [1, 2], "b": [1, 2], "c": [1]}
WISHES = wishes_over(VERSIONS, 2)[::3] + [(("z", (1,)),), (("c", (1,)), ("z", (1, 2)), ("a", (1,)))]
RELEASES = [("a", 1), ("a", 2), ("b", 1), ("b", 2), ("c", 1), ("c", 2), ("z", 1)]


def made_up(many=45, seed=11):
    dice = Dice(seed)
    return [()] + [dice.shelf() for _ in range(many)]


def shelf_of(versions, last=None):
    """A SHELF without RULES, of so many VERSIONS of each NAME."""
    return tuple(sorted(((name, own + 1), (), 0, last) for name, many in versions.items() for own in range(many)))


FULL = shelf_of({name: 4 for name in "abcde"})
OVER = shelf_of({"a": 5, "b": 4, "c": 4, "d": 4, "e": 4})
STRICT = tuple((release, (("b" if release[0] == "a" else "a", (0,)),), first, last) for release, _, first, last in OVER)


class FallsTest(unittest.TestCase):

    def test_a_lock_stands_or_has_a_fall(self):
        for shelf in made_up():
            for day in days_that_matter(shelf):
                for lock in locks_over({"a": [1, 2], "b": [1], "c": [1, 2], "z": [1]}):
                    self.check(shelf, day, lock)

    def check(self, shelf, day, lock):
        there = plain_there(shelf, day)
        falls = {("lacking", own) for own in lock if own not in there}
        falls |= {("barred", own, name) for own in lock if own in there for name, lot in there[own].items()
                  if plain_state(lock, name) not in lot}
        self.assertIs(stands(shelf, day, lock), not falls)
        self.assertEqual(stands(shelf, day, lock), plain_stands(shelf, day, lock))
        if falls:
            self.assertIn(why_falls(shelf, day, lock), falls)
        else:
            with self.assertRaises(NoPaper):
                why_falls(shelf, day, lock)
        for release in lock + (("new", 1),):
            for thing in [("lacking", release)] + [("barred", release, name) for name in ("a", "b", "c", "z", "new")]:
                self.assertIs(is_why_falls(shelf, day, lock, thing), thing in falls)

    def test_rules_of_names_that_are_not_on_the_shelf(self):
        needs, shuns = ((("a", 1), (("z", (1,)),), 0, None),), ((("a", 1), (("z", (0,)),), 0, None),)
        self.assertEqual(why_falls(needs, 0, (("a", 1),)), ("barred", ("a", 1), "z"))
        self.assertEqual(why_falls(needs, 0, (("a", 1), ("z", 1))), ("lacking", ("z", 1)))
        self.assertEqual((all_standing(needs, 0), all_standing(shuns, 0)), ([()], [(), (("a", 1),)]))
        self.assertTrue(is_why_falls(shuns, 0, (("a", 1), ("z", 1)), ("barred", ("a", 1), "z")))

    def test_the_empty_lock_stands_always(self):
        for shelf in made_up(10) + [OVER]:
            for day in (0, 5, 10 ** 6, 10 ** 12):
                self.assertIs(stands(shelf, day, ()), True)

    def test_no_bound_on_the_locks_here(self):
        lock = (("a", 5), ("b", 1), ("c", 2))
        self.assertIs(stands(OVER, 0, lock), True)
        self.assertEqual(why_falls(STRICT, 0, (("a", 5), ("b", 1))), ("barred", ("a", 5), "b"))
        self.assertIs(is_why_falls(STRICT, 0, (("a", 5), ("b", 1)), ("barred", ("b", 1), "a")), True)
        self.assertIs(is_why_falls(OVER, 0, lock, ("lacking", ("a", 5))), False)


class StandingTest(unittest.TestCase):

    def test_all_that_stand(self):
        for shelf in made_up():
            for day in days_that_matter(shelf):
                found = plain_standing(shelf, day)
                self.assertEqual(all_standing(shelf, day), found)
                self.assertEqual(how_many_stand(shelf, day), len(found))
                self.assertIn((), found)

    def test_answers(self):
        for shelf in made_up(20, 12):
            for day in days_that_matter(shelf)[:7]:
                wanted = [plain_answer(shelf, wish, day) for wish in WISHES]
                self.assertEqual(answers_on(shelf, WISHES, day), wanted)
                self.assertEqual(answers_on(shelf, (), day), [])
                for wish, answer in list(zip(WISHES, wanted))[day % 4::4]:
                    self.assertEqual(answer_of(shelf, wish, day), answer)

    def test_an_answer_stays_with_a_wish_that_still_lets_it(self):
        dice = Dice(13)
        for shelf in made_up(25):
            for wish in WISHES:
                answer = answer_of(shelf, wish, 1)
                if answer is not None:
                    less = tuple((name, tuple(sorted(set(dice.some(own)) | {plain_state(answer, name)})))
                                 for name, own in wish)
                    self.assertEqual(answer_of(shelf, less, 1), answer)

    def test_who_can_be_there(self):
        for shelf in made_up():
            for day in days_that_matter(shelf)[:8]:
                locks = plain_standing(shelf, day)
                for one in RELEASES:
                    self.assertIs(can_be_there(shelf, day, one), any(one in lock for lock in locks))
                    for other in RELEASES:
                        both = any(one in lock and other in lock for lock in locks)
                        self.assertIs(can_be_together(shelf, day, one, other), both)
                never = [own[0] for own in shelf if not any(own[0] in lock for lock in locks)]
                self.assertEqual(never_there(shelf, day), tuple(sorted(never)))

    def test_who_is_needed(self):
        for shelf in made_up():
            for day in days_that_matter(shelf)[:8]:
                for release in RELEASES:
                    locks = [lock for lock in plain_standing(shelf, day) if release in lock]
                    if not locks:
                        self.assertEqual(outcome(needed_by, shelf, day, release), ("raised", "CanNot", {}))
                        continue
                    wanted = {name for name in "abc" if name != release[0]
                              and all(plain_state(lock, name) > 0 for lock in locks)}
                    self.assertEqual(needed_by(shelf, day, release), tuple(sorted(wanted)))

    def test_the_first_and_the_last_day(self):
        own = ((("a", 1), (), 3, 5), (("b", 1), (("a", (1,)),), 0, None))
        self.assertEqual([how_many_stand(own, day) for day in (0, 2, 3, 5, 6, 10 ** 9)], [1, 1, 3, 3, 1, 1])
        self.assertEqual(never_there(own, 6), (("a", 1), ("b", 1)))

    def test_long_names_and_great_versions(self):
        long, top = "abcdefghijkl", 10 ** 6
        own = (((long, top - 1), (), 0, None), ((long, top), (("b", (0, top)),), 0, None), (("b", top), (), 0, 10 ** 6))
        self.assertEqual(answer_of(own, ((long, (top - 1, top)),), 10 ** 6), ((long, top),))
        self.assertEqual(answer_of(own, (("b", (top,)), (long, (top - 1, top))), 10 ** 6), ((long, top), ("b", top)))
        self.assertIsNone(answer_of(own, (("b", (top,)),), 10 ** 6 + 1))


class TooManyTest(unittest.TestCase):

    def calls(self, shelf, day):
        release = shelf[0][0]
        return [(all_standing, (shelf, day)), (how_many_stand, (shelf, day)), (answer_of, (shelf, (), day)),
                (answers_on, (shelf, ((), ()), day)), (answers_on, (shelf, (), day)), (can_be_there, (shelf, day, release)),
                (can_be_there, (shelf, day, ("no", 1))), (can_be_together, (shelf, day, release, ("b", 1))),
                (never_there, (shelf, day)), (needed_by, (shelf, day, release)), (needed_by, (shelf, day, ("no", 1)))]

    def test_not_more_than_3125_locks(self):
        many = ((FULL, 3125), (shelf_of({"a": 3124}), 3125), (shelf_of({"a": 624, "b": 4}), 3125),
                (shelf_of({name: 1 for name in "abcdefghijk"}), 2048), (shelf_of({"a": 780, "b": 3}), 3124))
        for shelf, wanted in many:
            self.assertEqual(how_many_stand(shelf, 0), wanted)
        for function, given in self.calls(FULL, 3):
            if given[-1] != ("no", 1):
                function(*given)
        with self.assertRaises(CanNot):
            needed_by(FULL, 0, ("no", 1))

    def test_more_than_3125_locks(self):
        for shelf in (OVER, STRICT, shelf_of({"a": 3125}), shelf_of({name: 1 for name in "abcdefghijkl"}),
                      shelf_of({"a": 781, "b": 3}), shelf_of({"a": 1562, "b": 1})):
            for function, given in self.calls(shelf, 7):
                with self.assertRaises(TooMany):
                    function(*given)

    def test_what_is_there_on_the_day_counts(self):
        short = shelf_of({name: 5 for name in "abcde"}, 9)
        for function, given in self.calls(short, 10):
            if function is not needed_by:
                function(*given)
        for function, given in self.calls(short, 9):
            with self.assertRaises(TooMany):
                function(*given)

    def test_rules_do_not_count(self):
        odd = tuple((release, (("z", (0, 1, 2)),), first, last) for release, _, first, last in FULL)
        self.assertEqual(how_many_stand(odd, 0), 3125)


if __name__ == "__main__":
    unittest.main()
