"""[6]: wishes.py, beside plain reckonings over all small WISHES and LOCKS."""

import itertools
import unittest

from helper import Dice, locks_over, plain_best, plain_better, plain_met, plain_state, subsets, wish_ok, wishes_over
from lockstold.errors import CanNot
from lockstold.wishes import (all_that_meet, best_of, best_that_meets, both_wishes, first_unlike, first_unmet, is_better,
                              is_met, is_wish, just_wish, locks_from_best, narrowed, order_of)

VERSIONS = {"a": [1, 2], "b": [1, 2], "c": [4]}
LOCKS = locks_over(VERSIONS)
WISHES = wishes_over(VERSIONS)
FEW = wishes_over({"a": [1, 2], "b": [1, 2]}) + [(("c", (4,)), ("a", (1,))), (("z", (1,)),), (("b", (10 ** 6,)),)]


class WishesTest(unittest.TestCase):

    def test_what_is_a_wish(self):
        for thing in WISHES + [(("b", (1,)), ("a", (10 ** 30,)))]:
            self.assertIs(is_wish(thing), True)
        for thing in ((("a", ()),), (("a", (0, 1)),), (("a", (2, 1)),), (("a", (1, 1)),), (("a", (1,)), ("a", (2,))),
                      (("a", (1,)), ("a", (1,))), (("a", (True,)),), (("a", [1]),), [], [("a", (1,))], (["a", (1,)],),
                      (("a", 1),), ("a", (1,)), (("A", (1,)),), (("a", (1,), 1),), None, "", 1):
            self.assertIs(is_wish(thing), False)

    def test_what_meets(self):
        for wish, lock in itertools.product(WISHES, LOCKS):
            unmet = [name for name, versions in wish if plain_state(lock, name) not in versions]
            self.assertIs(is_met(wish, lock), unmet == [])
            self.assertEqual(first_unmet(wish, lock), unmet[0] if unmet else None)

    def test_order(self):
        for wish in WISHES:
            own = [name for name, _ in wish]
            for names in [()] + subsets(("a", "aa", "b", "z")):
                self.assertEqual(order_of(wish, names), tuple(own + sorted(set(names) - set(own))))

    def test_all_wishes_put_together(self):
        for one, two in itertools.product(FEW, FEW):
            meets = [lock for lock in LOCKS + [(("z", 1),)] if plain_met(one, lock) and plain_met(two, lock)]
            lets = {name: set(versions) for name, versions in one}
            for name, versions in two:
                lets[name] = lets.get(name, set(versions)) & set(versions)
            if not all(lets.values()):
                with self.assertRaises(CanNot):
                    both_wishes(one, two)
                self.assertEqual(meets, [])
                continue
            found = both_wishes(one, two)
            self.assertEqual(found, tuple((name, tuple(sorted(own))) for name, own in lets.items()))
            self.assertTrue(wish_ok(found))
            self.assertEqual(meets, [lock for lock in LOCKS + [(("z", 1),)] if plain_met(found, lock)])

    def test_narrowed(self):
        for wish in WISHES:
            for name, versions in itertools.product(("a", "c", "z"), ((1,), (1, 2), (2, 5), (4,), (10 ** 6,))):
                lets = dict(wish)
                left = tuple(sorted(set(lets.get(name, versions)) & set(versions)))
                if not left:
                    with self.assertRaises(CanNot):
                        narrowed(wish, name, versions)
                    continue
                lets[name] = left
                self.assertEqual(narrowed(wish, name, versions), tuple(lets.items()))


class BetterTest(unittest.TestCase):

    def test_better_and_where_they_part(self):
        for wish, lock, far in itertools.product(FEW, LOCKS, LOCKS):
            self.assertIs(is_better(wish, lock, far), plain_better(wish, lock, far))
            unlike = [name for name in [own for own, _ in wish] + ["a", "b", "c"]
                      if plain_state(lock, name) != plain_state(far, name)]
            self.assertEqual(first_unlike(wish, lock, far), unlike[0] if unlike else None)

    def test_of_two_unlike_locks_just_one_is_better(self):
        for wish, lock, far in itertools.product(FEW, LOCKS, LOCKS):
            self.assertEqual(is_better(wish, lock, far) + is_better(wish, far, lock), lock != far)

    def test_better_than_better_is_better(self):
        few = locks_over({"a": [1, 2], "b": [1, 2]})
        for wish in FEW:
            for one, two, three in itertools.product(few, few, few):
                if is_better(wish, one, two) and is_better(wish, two, three):
                    self.assertTrue(is_better(wish, one, three))

    def test_great_versions(self):
        top, less, gone = (("a", 10 ** 6),), (("a", 10 ** 6 - 1),), ()
        self.assertEqual(locks_from_best((), (less, top, gone, less)), [gone, top, less])
        self.assertEqual(locks_from_best((("a", (1,)),), [top, (("a", 10 ** 30),), less]), [(("a", 10 ** 30),), top, less])


class BestTest(unittest.TestCase):

    def handfuls(self, many):
        dice = Dice(6)
        for at in range(many):
            locks = [dice.pick(LOCKS) for _ in range(at % 6)]
            yield dice.pick(WISHES), tuple(locks + locks[:at % 3])

    def test_best_all_from_best_and_those_that_meet(self):
        for wish, locks in self.handfuls(600):
            self.assertEqual(best_of(wish, locks), plain_best(wish, locks))
            found = locks_from_best(wish, locks)
            self.assertEqual(sorted(found), sorted(set(locks)))
            self.assertTrue(all(plain_better(wish, one, two) for one, two in zip(found, found[1:])))
            meet = [lock for lock in locks if plain_met(wish, lock)]
            self.assertEqual(all_that_meet(wish, locks), sorted(set(meet)))
            self.assertEqual(best_that_meets(wish, locks), plain_best(wish, meet))

    def test_in_whatever_order_they_come(self):
        for wish, locks in self.handfuls(60):
            for own in itertools.permutations(locks[:4]):
                self.assertEqual(best_of(wish, own), best_of(wish, locks[:4]))
                self.assertEqual(locks_from_best(wish, own), locks_from_best(wish, locks[:4]))
                self.assertEqual(all_that_meet(wish, own), all_that_meet(wish, locks[:4]))
                self.assertEqual(best_that_meets(wish, own), best_that_meets(wish, locks[:4]))

    def test_none_of_no_locks(self):
        for wish in FEW:
            self.assertEqual((best_of(wish, ()), best_that_meets(wish, ()), best_of(wish, [])), (None, None, None))
            self.assertEqual((locks_from_best(wish, ()), all_that_meet(wish, ())), ([], []))
        self.assertEqual((best_of((), ((),)), best_that_meets((("a", (1,)),), ((),))), ((), None))

    def test_just_wish(self):
        for lock in LOCKS:
            wish = just_wish(lock)
            self.assertEqual(wish, tuple((name, (version,)) for name, version in lock))
            meet = [own for own in LOCKS if set(lock) <= set(own)]
            self.assertEqual(all_that_meet(wish, LOCKS), sorted(meet))
            self.assertEqual(best_that_meets(wish, LOCKS), lock)

    def test_narrowed_keeps_the_best_that_meets_it(self):
        for wish in WISHES:
            best = best_that_meets(wish, LOCKS[::2])
            for name, versions in wish:
                for own in subsets(versions):
                    less = narrowed(wish, name, own)
                    self.assertEqual(order_of(less, ("a", "b", "c")), order_of(wish, ("a", "b", "c")))
                    if best is not None and plain_met(less, best):
                        self.assertEqual(best_that_meets(less, LOCKS[::2]), best)


if __name__ == "__main__":
    unittest.main()
