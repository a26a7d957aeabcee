"""[2]: a `thing` may be anything; True for exactly the values described, and no error."""

import unittest

import helper
from helper import Dice, JudgeCase, mutants, same
from lockstold.locks import is_lock
from lockstold.shelves import is_shelf
from lockstold.standing import is_why_falls
from lockstold.states import is_lot, is_name, is_release, is_rules
from lockstold.tellings import is_row, is_telling
from lockstold.wishes import is_wish
from lockstold.worn import is_parting_wish, is_worn, told_by_wish
from papers import plain_worn

LONG, WIDE = "abcdefghijkl", 10 ** 40

SHELF = ((("app", 1), (("lib", (1, 2)),), 0, None), (("app", 2), (("lib", (2,)), ("zoo", (0, 3))), 3, 9),
         (("lib", 2), (), 0, 0))


class ThingsTest(JudgeCase):

    def test_names(self):
        self.check(is_name, helper.name_ok, ["a", "lib", LONG, LONG + "m", "z", "az", "a" * 13])

    def test_no_letters_but_a_to_z(self):
        for code in range(0x250):
            self.assertIs(is_name("a" + chr(code)), "a" <= chr(code) <= "z")

    def test_releases(self):
        self.check(is_release, helper.release_ok, [("a", 1), (LONG, 10 ** 6), ("lib", WIDE)])

    def test_lots(self):
        self.check(is_lot, lambda thing: helper.set_ok(thing, 0), [(0,), (0, 1, 2), (5, 10 ** 6), (3, WIDE)])

    def test_rules(self):
        self.check(is_rules, helper.rules_ok,
                   [(), (("a", (0, 2)),), (("a", (0, 2)), ("b", (1, 3)), (LONG, (WIDE,)))])

    def test_locks(self):
        self.check(is_lock, helper.lock_ok, [(), (("a", 2),), (("a", 2), ("b", 1), (LONG, WIDE))])
        self.check(is_lock, helper.lock_ok, [tuple((chr(97 + at), 1) for at in range(26))])

    def test_wishes(self):
        self.check(is_wish, helper.wish_ok,
                   [(), (("gui", (1, 2)), ("core", (3,))), (("z", (1,)), ("a", (2, WIDE)), ("b", (1,)), ("c", (1,)))])

    def test_shelves(self):
        self.check(is_shelf, helper.shelf_ok, [(), SHELF, SHELF[:1], ((("a", WIDE), (), WIDE, WIDE + 1),)])

    def test_rows(self):
        wish, lock = (("gui", (1, 2)), ("core", (3,))), (("core", 3), ("gui", WIDE))
        self.check(is_row, helper.row_ok, [(0, (), ()), (WIDE, wish, None), (3, wish, lock), (3, (), lock)])

    def test_tellings(self):
        rows = (0, (), None), (7, (("b", (1,)), ("a", (2, WIDE))), (("a", 2), ("b", 1))), (7, (), ())
        self.check(is_telling, helper.telling_ok, [(), rows, rows[1:2], rows[::-1], rows * 9])
        self.check(is_telling, helper.telling_ok, [Dice(2).telling(rows=3)])

    def test_made_up_shelves(self):
        dice = Dice(1)
        self.check(is_shelf, helper.shelf_ok, [dice.shelf() for _ in range(4)])

    def test_falls(self):
        lock = (("app", 2), ("lib", 1), ("top", 1))
        for day in (0, 5):
            there = helper.plain_there(SHELF, day)
            falls = [("lacking", own) for own in lock if own not in there]
            falls += [("barred", own, name) for own in lock if own in there for name, lot in there[own].items()
                      if helper.plain_state(lock, name) not in lot]
            seeds = falls + [("barred", ("app", 2), "zoo"), ("lacking", ("lib", 2)), ("barred", ("app", 1), "lib")]
            self.check(lambda thing: is_why_falls(SHELF, day, lock, thing),
                       lambda thing: any(same(thing, own) for own in falls), seeds)

    def test_nothing_is_a_fall_of_what_stands(self):
        for thing in mutants(("lacking", ("app", 1))):
            self.assertIs(is_why_falls(SHELF, 0, (), thing), False)

    def test_worn_forms(self):
        seeds = [(), ((("a", 1), (("b", (0, 1)),), 0, None), (("b", 1), (("a", (0, 1)),), 0, None)),
                 ((("a", 1), (("b", (1,)),), 0, None), (("b", 1), (("a", (0, 1)),), 0, None)),
                 ((("a", 1), (("b", (2,)),), 0, None), (("b", 1), (("a", (0,)),), 0, None)),
                 ((("a", 1), (), 0, None), (("a", 2), (), 0, None)), SHELF]
        self.check(is_worn, plainly_worn, seeds)

    def test_told_locks(self):
        standing = helper.plain_standing(SHELF, 0)
        self.check(lambda thing: told_by_wish(SHELF, 0, thing),
                   lambda thing: any(same(thing, own) for own in standing), helper.locks_over({"app": [1, 2], "lib": [2]}))

    def test_parting_wishes(self):
        one, other = SHELF[:1] + SHELF[2:], SHELF[2:]
        def parts(thing):
            return helper.wish_ok(thing) and (
                helper.plain_answer(one, thing, 0) != helper.plain_answer(other, thing, 0))
        self.check(lambda thing: is_parting_wish(one, other, 0, thing), parts,
                   [(("app", (1,)),), (("lib", (2,)),), (("lib", (1, 2)), ("app", (1,))), ()])


def plainly_worn(thing):
    """Whether thing is a still SHELF, and its own WORN form, by the words of [9]."""
    if not helper.shelf_ok(thing) or any(own[2:] != (0, None) for own in thing):
        return False
    return plain_worn(thing, 0) == thing


if __name__ == "__main__":
    unittest.main()
