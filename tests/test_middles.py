"""[14]: middles.py, beside plain reckonings over all triples of members and all woven LOCKS."""

import itertools
import unittest

from helper import SHOPS, Dice, lock_ok, locks_over, outcome, plain_all_woven, plain_locks, plain_state
from lockstold.errors import NoPaper, TooMany, Unfit
from lockstold.middles import (are_closed, closed_up, common_lock, is_open_triple, middle, open_triple, told_whole,
                               woven_beyond)

ONE, OTHER, THIRD = (("a", 1), ("b", 2)), (("a", 2), ("c", 1)), (("b", 1), ("c", 2))
AB, BC, AC = (("a", 1), ("b", 1)), (("b", 1), ("c", 1)), (("a", 1), ("c", 1))
LOCKS = locks_over({"a": [1, 2], "b": [1, 2], "c": [1]})
LONG = "abcdefghijkl"


def made_up(many, seed, most=6):
    dice = Dice(seed)
    for _ in range(many):
        names = dice.pick((("a", "b"), ("a", "b", "c"), ("a", "b", "c", "d")))
        yield tuple(dice.lock(names, dice.pick((1, 2, 4))) for _ in range(dice.pick(range(most + 1))))


def plain_common(locks):
    """The LOCK of the middle STATES of an odd number of LOCKS."""
    found = []
    for name in sorted({name for lock in locks for name, _ in lock}):
        states = sorted(plain_state(lock, name) for lock in locks)
        found.append((name, states[(len(states) - 1) // 2]))
    return tuple(own for own in found if own[1] > 0)


def plain_closed(locks):
    """All LOCKS to which MIDDLES lead from locks and ()."""
    found = set(locks) | {()}
    while True:
        more = {plain_common(own) for own in itertools.combinations(sorted(found), 3)} - found
        if not more or len(found) > 60:
            return found
        found |= more


class MiddleTest(unittest.TestCase):

    def test_of_three(self):
        for own in itertools.product(LOCKS[::2], repeat=3):
            found = middle(*own)
            self.assertEqual(found, plain_common(own))
            self.assertTrue(lock_ok(found))
            self.assertEqual(found, middle(own[2], own[0], own[1]))
            self.assertEqual(middle(own[0], own[0], own[2]), own[0])

    def test_great_values(self):
        one = tuple((name, 10 ** 6) for name in ("a", LONG, "b"))
        self.assertEqual(middle(one, ((LONG, 3),), ((LONG, 10 ** 6 - 1), ("b", 7))), ((LONG, 10 ** 6 - 1), ("b", 7)))
        self.assertEqual(middle((), (), one), ())

    def test_common(self):
        for locks in made_up(150, 81, 9):
            if len(locks) % 2 == 0:
                self.assertEqual(outcome(common_lock, locks), ("raised", "Unfit", {}))
                continue
            self.assertEqual(common_lock(locks), plain_common(locks))
            self.assertEqual(common_lock(locks[::-1]), plain_common(locks))
        self.assertEqual(common_lock((ONE,)), ONE)
        self.assertEqual(common_lock((ONE, OTHER) * 49 + (THIRD,)), plain_common((ONE, OTHER) * 49 + (THIRD,)))
        with self.assertRaises(Unfit):
            common_lock((ONE,) * 100)
        with self.assertRaises(Unfit):
            common_lock(())

    def test_some_alike_count_each(self):
        self.assertEqual(common_lock((ONE, (), ONE)), ONE)
        self.assertEqual(common_lock((ONE, (), ONE, (), ())), ())


class ClosedTest(unittest.TestCase):

    def test_beside_all_triples(self):
        seen = set()
        for locks in made_up(250, 82):
            members = set(locks) | {()}
            fit = [own for own in itertools.product(members, repeat=3) if plain_common(own) not in members]
            self.assertIs(are_closed(locks), not fit)
            seen.add(bool(fit))
            if not fit:
                self.assertEqual(outcome(open_triple, locks), ("raised", "NoPaper", {}))
            else:
                self.assertIn(open_triple(locks), fit)
                self.assertEqual(open_triple(locks[::-1] + locks), open_triple(locks))
            for own in itertools.product(sorted(members) + [(("z", 1),)], repeat=3):
                self.assertIs(is_open_triple(locks, own), own in fit)
        self.assertEqual(seen, {True, False})

    def test_closed_up(self):
        seen = set()
        dice = Dice(86)
        many = [tuple(dice.lock("abcde", 4) for _ in range(9)) for _ in range(4)]
        for locks in list(made_up(250, 83, 7)) + many:
            wanted = plain_closed(locks)
            seen.add(len(wanted) > 60)
            if len(wanted) > 60:
                self.assertEqual(outcome(closed_up, locks), ("raised", "TooMany", {}))
                continue
            self.assertEqual(closed_up(locks), tuple(sorted(wanted)))
            self.assertIs(are_closed(closed_up(locks)), True)
            self.assertEqual(closed_up(closed_up(locks)), closed_up(locks))
            if len(locks) % 2:
                self.assertIn(common_lock(locks), closed_up(locks))
        self.assertEqual(seen, {True, False})

    def test_within_each_closed_set(self):
        closed = [own for many in range(4) for own in itertools.combinations(LOCKS[1:8], many) if are_closed(own)]
        self.assertGreater(len(closed), 20)
        for own in closed:
            for many in range(len(own) + 1):
                for part in itertools.combinations(own, many):
                    self.assertTrue(set(closed_up(part)) <= set(own) | {()})

    def test_not_more_than_sixty(self):
        def chain(many):
            return tuple((("a", version),) for version in range(1, many + 1))
        # Of one NAME all sets are closed: () and 59 more are 60.
        self.assertEqual(closed_up(chain(59)), ((),) + chain(59))
        self.assertEqual(closed_up(chain(59)[::-1] + chain(20) + ((),)), ((),) + chain(59))
        self.assertEqual(len(closed_up(chain(59) + ((),) * 41)), 60)
        for locks in (chain(60), chain(99), chain(60) + ((),)):
            with self.assertRaises(TooMany):
                closed_up(locks)
            self.assertIs(are_closed(locks), True)

    def test_many_locks(self):
        grid = tuple(tuple((name, state) for name, state in (("a", one), ("b", two)) if state)
                     for one in range(10) for two in range(10))
        self.assertIs(are_closed(grid), True)
        self.assertIs(are_closed(grid[1:]), True)
        # The MIDDLE of a 5 with b 1, a 1 with b 5, and a 9 with b 9 is the one that is missing.
        self.assertIs(are_closed(tuple(own for own in grid if own != (("a", 5), ("b", 5)))), False)

    def test_of_none_and_of_one(self):
        for locks in ((), ((),), (ONE,), (ONE, ONE, ()), ((),) * 100):
            self.assertIs(are_closed(locks), True)
            self.assertEqual(closed_up(locks), tuple(sorted(set(locks) | {()})))
            with self.assertRaises(NoPaper):
                open_triple(locks)
            self.assertIs(is_open_triple(locks, ((), (), ())), False)

    def test_open_triples_with_one_flaw(self):
        fine = (ONE, (), OTHER)
        self.assertIs(is_open_triple((ONE, OTHER), fine), True)
        self.assertIs(is_open_triple((ONE, OTHER), fine[::-1]), True)
        for flawed in (list(fine), fine[:2], fine + ((),), (list(ONE), (), OTHER), ((("a", True), ("b", 2)), (), OTHER),
                       (ONE, None, OTHER), (ONE, (), ONE), (ONE, (), THIRD), ((("a", 1),), (), OTHER), (), None,
                       (ONE[::-1], (), OTHER)):
            self.assertIs(is_open_triple((ONE, OTHER), flawed), False, flawed)


class WholeTest(unittest.TestCase):

    def made_up(self, many, seed):
        dice = Dice(seed)
        yield ()
        for _ in range(many):
            yield dice.telling(dice.pick((("a", "b"), ("a", "b", "c"))), rows=5, lies=0.5)

    def test_what_is_woven_beyond(self):
        seen = set()
        for telling in self.made_up(80, 84):
            told = set(plain_locks(telling)) | {()}
            for shop, day in itertools.product(SHOPS, (0, 1, 3, 10 ** 6)):
                wanted = [lock for lock in plain_all_woven(telling, shop, day) if lock not in told]
                self.assertEqual(woven_beyond(telling, shop, day), tuple(wanted))
                if shop == "still":
                    self.assertIs(told_whole(telling), not wanted)
                    seen.add(bool(wanted))
        self.assertEqual(seen, {True, False})

    def test_closed_tellings_are_whole(self):
        seen = set()
        for telling in self.made_up(200, 85):
            answers = tuple(row[2] for row in telling if row[2] is not None)
            if are_closed(answers) or len({name for lock in answers for name, _ in lock}) <= 2:
                self.assertIs(told_whole(telling), True, telling)
            seen.add((are_closed(answers), told_whole(telling)))
        self.assertEqual(seen, {(True, True), (False, True), (False, False)})

    def test_the_hoop(self):
        hoop = ((0, (), AB), (0, (), BC), (0, (), AC))
        self.assertEqual(woven_beyond(hoop + ((5, (), AC + (("d", 1),)),), "growing", 4), ((("a", 1),), (("a", 1), ("b", 1),
                                                                                          ("c", 1)), (("b", 1),), (("c", 1),)))
        self.assertIs(told_whole(hoop + ((0, (), None),)), False)
        self.assertIs(told_whole(hoop + tuple((0, (), own) for own in ((("a", 1),), (("b", 1),), (("c", 1),),
                                                                        (("a", 1), ("b", 1), ("c", 1))))), True)


if __name__ == "__main__":
    unittest.main()
