"""[2]: the judges of papers: True for just the things that their points describe, and no error, whatever thing is."""

import itertools
import unittest

import helper
from helper import (SHOPS, Dice, JudgeCase, against_ok, lock_ok, mutants, number_ok, plain_bad, plain_beats, plain_state, plain_stands,
                    plain_tight, same)
from papers import apart_rows_ok, deal_ok, leaving_ok, lenders_ok, papers_apart_ok
from lockstold.fewrows import is_least_bad
from lockstold.liars import is_leaving, is_papers_apart
from lockstold.middles import is_open_triple
from lockstold.mirrors import is_apart_rows, is_dealt
from lockstold.told import is_against, is_tight_shelf, is_why_not_let
from lockstold.tomorrow import is_why_not_answer
from lockstold.woven import is_gap, is_lenders

AB, BC, AC = (("a", 1), ("b", 1)), (("b", 1), ("c", 1)), (("a", 1), ("c", 1))
THREE = ((2, (("a", (1,)), ("b", (1,))), AB), (4, (("b", (1,)), ("c", (1,))), BC), (6, (("a", (1,)), ("c", (1,))), AC))
SHOWN = ((0, (("app", (1, 2)),), (("app", 2), ("lib", 1))), (0, (("lib", (1, 2)),), (("lib", 2),)),
         (0, (("app", (1,)), ("lib", (1, 2))), (("app", 1), ("lib", 2))))
HEARD = ((0, (("tea", (1,)),), (("cup", 1), ("tea", 1))), (1, (("tea", (1,)),), (("cup", 2), ("tea", 1))),
         (2, (("cup", (1, 2)),), (("cup", 1),)), (3, (), ()), (3, (("cup", (3,)),), (("tea", 1),)))


class JudgesTest(JudgeCase):

    def test_lenders(self):
        fine = (((("a", 1), (0, 2)), (("c", 1), (1, 2))),
                (((("a", 1), "b", 0), 2), ((("a", 1), "c", 1), 2), ((("c", 1), "a", 1), 2), ((("c", 1), "b", 0), 2)))
        growing = (tuple((own, rows[:1]) for own, rows in fine[0]), fine[1])
        for shop, day in (("short", 5), ("growing", 4), ("still", 0), ("short", 1)):
            def wanted(thing):
                return lenders_ok(THREE, shop, day, AC, thing)
            seeds = [fine, growing]
            if day == 1:
                self.assertFalse(any(is_lenders(THREE, shop, day, AC, thing) for seed in seeds for thing in mutants(seed)))
            else:
                self.check(lambda thing: is_lenders(THREE, shop, day, AC, thing), wanted, seeds)
        self.check(lambda thing: is_lenders(THREE, "short", 0, (), thing), lambda thing: same(thing, ((), ())), [((), ())])

    def test_gaps(self):
        lock = (("a", 1), ("b", 2), ("c", 1))
        for shop, day, gaps in (
                ("still", 0, [("never", ("b", 2)), ("apart", ("a", 1), "b"), ("apart", ("c", 1), "b")]),
                ("growing", 3, [("never", ("b", 2)), ("apart", ("a", 1), "b"), ("apart", ("c", 1), "b"), ("early", ("c", 1))]),
                ("short", 7, [("never", ("b", 2)), ("apart", ("a", 1), "b"), ("apart", ("c", 1), "b"), ("late", ("a", 1)),
                              ("late", ("c", 1))])):
            self.check(lambda thing: is_gap(THREE, shop, day, lock, thing),
                       lambda thing: any(same(thing, own) for own in gaps), gaps + [("early", ("a", 1))])

    def test_tight_shelves(self):
        for telling, shop in ((SHOWN, "still"), (SHOWN, "short"), (THREE, "growing")):
            shelf = plain_tight(telling, shop)
            self.check(lambda thing: is_tight_shelf(telling, shop, thing), lambda thing: same(thing, shelf), [shelf])
        for thing in mutants(plain_tight(HEARD, "still")):
            self.assertIs(is_tight_shelf(HEARD, "still", thing), False)

    def test_againsts(self):
        seeds = [("unmet", 4), ("better", 0, (("cup", 2), ("tea", 1)), (1,)), ("better", 2, (("cup", 2), ("tea", 1)), (1, 3)),
                 ("better", 3, (), ())]
        for shop in SHOPS:
            self.check(lambda thing: is_against(HEARD, shop, thing), lambda thing: against_ok(HEARD, shop, thing), seeds)
        dice = Dice(111)
        for _ in range(6):
            telling = dice.telling(rows=4, lies=0.5)
            for shop, thing in itertools.product(SHOPS, mutants(("better", 0, (("a", 1),), (0, 1)))):
                self.assertIs(is_against(telling, shop, thing), against_ok(telling, shop, thing))

    def test_why_not_answer(self):
        given = (1, (("cup", (1,)),), (("cup", 1),))
        rows = HEARD[:2] + (given,)
        self.check(lambda thing: is_why_not_answer(HEARD[:2], "still", *given, thing),
                   lambda thing: against_ok(rows, "still", thing), [("better", 0, (("cup", 2), ("tea", 1)), (1,)), ("unmet", 2)])
        for thing in mutants(("better", 0, (("cup", 2), ("tea", 1)), (1,))):
            self.assertIs(is_why_not_answer(HEARD[:2], "growing", *given, thing), False)

    def test_why_not_let(self):
        shelf = [(own[0], own[1], 0, None) for own in plain_tight(SHOWN, "still")]
        shelf = [own if own[0] != ("app", 2) else (own[0], (("lib", (0, 1)),), 0, None) for own in shelf]

        def wanted(thing):
            if type(thing) is not tuple or len(thing) != 2 or not number_ok(thing[0], 0) or thing[0] > 2:
                return False
            lock = thing[1]
            return lock_ok(lock) and ("app", 2) in lock and plain_state(lock, "lib") == 0 and (
                plain_stands(shelf, 0, lock) and plain_beats(lock, SHOWN[thing[0]]))

        self.check(lambda thing: is_why_not_let(SHOWN, "still", ("app", 2), "lib", 0, thing), wanted, [(0, (("app", 2),))])
        for thing in mutants((0, (("app", 2),))):
            self.assertIs(is_why_not_let(SHOWN, "still", ("app", 2), "lib", 1, thing), False)

    def test_sets_of_rows(self):
        for shop in SHOPS:
            bad = plain_bad(HEARD, shop)
            least = helper.least_of(bad)
            seeds = least + [(0, 1, 4), (2, 4), ()]
            self.check(lambda thing: is_least_bad(HEARD, shop, thing), lambda thing: any(same(thing, own) for own in least), seeds)
            self.check(lambda thing: is_leaving(HEARD, shop, thing), lambda thing: leaving_ok(HEARD, shop, thing),
                       [(1, 4), (1, 2, 4), (4,), ()])
            self.check(lambda thing: is_papers_apart(HEARD, shop, thing), lambda thing: papers_apart_ok(HEARD, shop, thing),
                       [((0, 1), (4,)), ((1, 2), (4,)), ((4,),), ((0, 1, 2, 3, 4),), ()])

    def test_deals_and_rows_apart(self):
        for telling, shop in ((HEARD[:4], "still"), (HEARD[:4], "growing"), (HEARD[:4], "short"), (HEARD, "still")):
            seeds = [((0, 2), (1, 3)), ((0,), (1,), (2,), (3,)), ((0, 1, 2, 3),), ((0, 2, 3), (1,)), ((0, 2), (1,), (3, 4))]
            if telling != HEARD:
                self.check(lambda thing: is_dealt(telling, shop, thing), lambda thing: deal_ok(telling, shop, thing), seeds)
            else:
                self.assertFalse(any(is_dealt(telling, shop, thing) for seed in seeds for thing in mutants(seed)))
            self.check(lambda thing: is_apart_rows(telling, shop, thing), lambda thing: apart_rows_ok(telling, shop, thing),
                       [(0, 1), (1, 2), (0, 1, 4), (3,), ()])

    def test_open_triples(self):
        locks = (("a", 1), ("b", 2)), (("a", 2), ("c", 1))
        members = set(locks) | {()}

        def wanted(thing):
            return type(thing) is tuple and len(thing) == 3 and all(lock_ok(own) for own in thing) and (
                set(thing) == members)

        self.check(lambda thing: is_open_triple(locks, thing), wanted, [locks + ((),), locks[::-1] + ((),), (locks[0],) * 3])


if __name__ == "__main__":
    unittest.main()
