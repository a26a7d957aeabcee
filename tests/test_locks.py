"""[5]: locks.py, beside plain reckonings over all small LOCKS."""

import functools
import itertools
import math
import unittest

from helper import Dice, lock_ok, locks_over, plain_better, plain_state, subsets
from lockstold.errors import CanNot, Unfit
from lockstold.locks import (all_locks, is_lock, lock_at, lock_number, lock_renamed, lock_with, lock_without, names_in,
                             pairs_of, shared_lock, state_of, unlike_names)

LOCKS = locks_over({"a": [1, 2], "b": [1, 2], "c": [3]})
NAMES = ("a", "b", "c", "d")
LONG, TOP = "abcdefghijkl", 10 ** 6


class LocksTest(unittest.TestCase):

    def test_what_is_a_lock(self):
        for thing in LOCKS + [((LONG, TOP),), (("a", 1), ("aa", 1), ("b", 10 ** 30))]:
            self.assertIs(is_lock(thing), True)
        for thing in ((("b", 1), ("a", 1)), (("a", 1), ("a", 1)), (("a", 1), ("a", 2)), (("a", 0),), (("a", True),), [],
                      [("a", 1)], (["a", 1],), ("a", 1), None, "", 0, (("a", 1, 1),), ((LONG + "m", 1),)):
            self.assertIs(is_lock(thing), False)

    def test_states_and_names(self):
        for lock in LOCKS:
            self.assertEqual(names_in(lock), tuple(sorted(dict(lock))))
            for name in NAMES:
                self.assertEqual(state_of(lock, name), dict(lock).get(name, 0))
        self.assertEqual(state_of(((LONG, TOP),), LONG), TOP)

    def test_with_and_without(self):
        for lock in LOCKS:
            for name in NAMES:
                less = {own: version for own, version in lock if own != name}
                self.assertEqual(lock_without(lock, name), tuple(sorted(less.items())))
                for version in (1, 2, TOP):
                    found = lock_with(lock, (name, version))
                    self.assertTrue(lock_ok(found))
                    self.assertEqual(dict(found), {**dict(lock), name: version})

    def test_pairs(self):
        for lock in LOCKS:
            for names in [()] + subsets(NAMES):
                wanted = {(own, name, plain_state(lock, name)) for own in lock for name in names if name != own[0]}
                self.assertEqual(pairs_of(lock, names), tuple(sorted(wanted)))

    def test_pairs_tell_the_whole_lock(self):
        found = {}
        for lock in LOCKS:
            found.setdefault(pairs_of(lock, NAMES), []).append(lock)
        # NAMES have d, which none of LOCKS has: no two of them have the same PAIRS.
        self.assertTrue(all(len(locks) == 1 for locks in found.values()))

    def test_shared_and_unlike(self):
        for lock, other in itertools.product(LOCKS, LOCKS):
            shared, unlike = shared_lock(lock, other), unlike_names(lock, other)
            self.assertEqual(shared, tuple(sorted(set(lock) & set(other))))
            self.assertEqual(shared, shared_lock(other, lock))
            names = set(names_in(lock)) | set(names_in(other))
            wanted = {name for name in names if plain_state(lock, name) != plain_state(other, name)}
            self.assertEqual(unlike, tuple(sorted(wanted)))
            self.assertEqual(set(names_in(shared)) | set(unlike), names)
            self.assertFalse(set(names_in(shared)) & set(unlike))


class RenamedTest(unittest.TestCase):

    def test_over_all_small_renamings(self):
        for firsts in [()] + subsets("abc"):
            for seconds in itertools.product(("a", "b", "c", "z"), repeat=len(firsts)):
                renames = tuple(zip(firsts, seconds))
                for lock in LOCKS:
                    self.check(lock, renames)

    def check(self, lock, renames):
        called = [dict(renames).get(name, name) for name, _ in lock]
        if len(set(called)) < len(called):
            with self.assertRaises(Unfit):
                lock_renamed(lock, renames)
            return
        wanted = tuple(sorted(zip(called, [version for _, version in lock])))
        self.assertEqual(lock_renamed(lock, renames), wanted)

    def test_two_names_that_swap(self):
        self.assertEqual(lock_renamed((("a", 1), ("b", 2)), (("a", "b"), ("b", "a"))), (("a", 2), ("b", 1)))
        self.assertEqual(lock_renamed((("a", 1),), (("a", "b"), ("b", "a"))), (("b", 1),))

    def test_a_name_that_the_lock_lacks_does_not_matter(self):
        self.assertEqual(lock_renamed((("a", 1),), (("b", "a"),)), (("a", 1),))
        self.assertEqual(lock_renamed((), (("a", "z"), ("b", "z"))), ())
        self.assertEqual(lock_renamed((("a", TOP),), (("a", LONG),)), ((LONG, TOP),))


class AllLocksTest(unittest.TestCase):

    def choices(self):
        dice = Dice(5)
        fixed = [(), (("a", (0,)),), (("a", (3,)),), (("a", (0, TOP)), (LONG, (1, 10 ** 30)))]
        return fixed + [dice.rules(("a", "b", "c", "d"), 3) for _ in range(60)]

    def test_each_once_the_better_one_first(self):
        for choices in self.choices():
            found = all_locks(choices)
            self.assertEqual(len(found), math.prod(len(lot) for _, lot in choices))
            self.assertEqual(len(set(found)), len(found))
            for lock in found:
                self.assertTrue(lock_ok(lock))
                self.assertTrue(set(names_in(lock)) <= {name for name, _ in choices})
                self.assertTrue(all(plain_state(lock, name) in lot for name, lot in choices))
            by_best = functools.cmp_to_key(lambda one, far: -1 if plain_better((), one, far) else 1)
            self.assertEqual(found, sorted(found, key=by_best))

    def test_numbers_lead_there_and_back(self):
        for choices in self.choices():
            found = all_locks(choices)
            for number, lock in enumerate(found):
                self.assertEqual(lock_number(choices, lock), number)
                self.assertEqual(lock_at(choices, number), lock)
            for number in (-1, -2, -len(found), -len(found) - 1, len(found), len(found) + 1, 10 ** 9, -10 ** 9):
                with self.assertRaises(CanNot):
                    lock_at(choices, number)

    def test_no_number_of_what_is_none_of_them(self):
        for choices in self.choices():
            found = all_locks(choices)
            for lock in locks_over({"a": [1, 2, 9], "b": [1], "c": [3], "e": [1]}):
                if lock not in found:
                    with self.assertRaises(CanNot):
                        lock_number(choices, lock)

    def test_one_lock_of_no_choices(self):
        self.assertEqual((all_locks(()), lock_number((), ()), lock_at((), 0)), ([()], 0, ()))
        for number in (-1, 1):
            with self.assertRaises(CanNot):
                lock_at((), number)
        with self.assertRaises(CanNot):
            lock_number((), (("a", 1),))

    def test_a_long_list_is_not_gone_through(self):
        choices = tuple((name, tuple(range(50))) for name in "abcdefghij")
        for number in (0, 1, 50 ** 10 - 1, 12345678901234567):
            self.assertEqual(lock_number(choices, lock_at(choices, number)), number)
        with self.assertRaises(CanNot):
            lock_at(choices, 50 ** 10)


if __name__ == "__main__":
    unittest.main()
