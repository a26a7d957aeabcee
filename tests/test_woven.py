"""[11]: woven.py, beside plain reckonings over all LOCKS, all DAYS and all LENDERS."""

import itertools
import unittest

from helper import (SHOPS, Dice, locks_over, outcome, plain_all_woven, plain_best, plain_locks, plain_met, plain_names,
                    plain_standing, plain_state, plain_tight, plain_woven)
from lockstold.errors import NoPaper
from lockstold.woven import (all_woven, best_woven, gap, is_gap, is_lenders, is_woven, lenders, new_woven, rows_lent,
                             woven_days, woven_more)
from papers import all_gaps

LOCKS = locks_over({"a": [1, 2], "b": [1, 2], "c": [1], "z": [1]})
LONG = "abcdefghijkl"
AB, BC, AC = (("a", 1), ("b", 1)), (("b", 1), ("c", 1)), (("a", 1), ("c", 1))
THREE = ((2, (), AB), (4, (), BC), (6, (), AC))


def made_up(many=15, seed=41, rows=5):
    dice = Dice(seed)
    return [(), ((2, (), None),), THREE] + [dice.telling(rows=rows, lies=0.5) for _ in range(many)]


def plain_lenders(telling, shop, day, lock):
    """All LENDERS of lock."""
    locks = plain_locks(telling)
    ends = []
    for own in lock:
        rows = [at for at, other in enumerate(locks) if own in other]
        ahead = [at for at in rows if telling[at][0] <= day]
        behind = [at for at in rows if telling[at][0] >= day]
        fit = {"still": [rows], "growing": [ahead], "short": [ahead, behind]}[shop]
        ends.append([(own, each) for each in itertools.product(*fit)])
    pairs = sorted((own, name, plain_state(lock, name)) for own in lock for name in plain_names(telling) if name != own[0])
    lent = [[(pair, at) for at, other in enumerate(locks) if pair[0] in other and plain_state(other, pair[1]) == pair[2]]
            for pair in pairs]
    return [(one, two) for one in itertools.product(*ends) for two in itertools.product(*lent)]


class WovenTest(unittest.TestCase):

    def test_lenders_or_a_gap_never_both(self):
        seen = set()
        for telling in made_up():
            for shop, day, lock in itertools.product(SHOPS, (0, 1, 3, 4), LOCKS):
                woven = plain_woven(telling, shop, day, lock)
                seen.add((shop, woven, len(lock)))
                self.assertIs(is_woven(telling, shop, day, lock), woven)
                if woven:
                    self.check_lenders(telling, shop, day, lock)
                else:
                    self.assertIn(gap(telling, shop, day, lock), all_gaps(telling, shop, day, lock))
                    self.assertEqual(outcome(lenders, telling, shop, day, lock), ("raised", "NoPaper", {}))
        self.assertTrue({(shop, woven, 2) for shop in SHOPS for woven in (True, False)} <= seen)

    def check_lenders(self, telling, shop, day, lock):
        found = lenders(telling, shop, day, lock)
        self.assertIs(is_lenders(telling, shop, day, lock, found), True)
        self.assertEqual(outcome(gap, telling, shop, day, lock), ("raised", "NoPaper", {}))
        rows = rows_lent(found)
        numbers = {at for _, own in found[0] for at in own} | {at for _, at in found[1]}
        self.assertEqual(rows, tuple(sorted(numbers)))
        self.assertTrue(plain_woven([telling[at] for at in rows], shop, day, lock))

    def test_all_lenders_and_no_others(self):
        dice, many = Dice(42), 0
        for telling in made_up(8, 43, 3) + [THREE]:
            for shop, day in itertools.product(SHOPS, (1, 2, 4)):
                for lock in [(), AB] + [own for own in LOCKS[::5]]:
                    fit = plain_lenders(telling, shop, day, lock)
                    if len(fit) > 500:
                        continue
                    many += len(fit)
                    self.assertEqual(bool(fit), plain_woven(telling, shop, day, lock))
                    for own in fit:
                        self.assertIs(is_lenders(telling, shop, day, lock, own), True)
                        thing = self.shifted(dice, own, len(telling))
                        self.assertIs(is_lenders(telling, shop, day, lock, thing), thing in fit)
        self.assertGreater(many, 100)

    def shifted(self, dice, told, many):
        """LENDERS with other numbers of ROWS, some of them of no ROW."""
        ends = tuple((own, tuple(dice.pick((at, at, dice.pick(range(-1, many + 1)))) for at in rows)) for own, rows in told[0])
        return ends, tuple((pair, dice.pick((at, at, at, dice.pick(range(-1, many + 1))))) for pair, at in told[1])

    def test_gaps_and_no_others(self):
        for telling in made_up(6, 44):
            for shop, day, lock in itertools.product(SHOPS, (0, 2, 5), LOCKS[::4]):
                gaps = all_gaps(telling, shop, day, lock)
                self.assertEqual(bool(gaps), not plain_woven(telling, shop, day, lock))
                things = [(word, own) for word in ("never", "early", "late") for own in lock + (("new", 1), ("a", 1))]
                things += [("apart", own, name) for own in lock + (("a", 2), ("new", 1))
                           for name in ("a", "b", "c", "z", "new")]
                for thing in things:
                    self.assertIs(is_gap(telling, shop, day, lock, thing), thing in gaps, (telling, shop, day, lock, thing))

    def test_the_empty_lock_is_woven_always(self):
        for telling in made_up(6):
            for shop in SHOPS:
                for day in (0, 7, 10 ** 6):
                    self.assertIs(is_woven(telling, shop, day, ()), True)
                    self.assertEqual(lenders(telling, shop, day, ()), ((), ()))
                    self.assertEqual(woven_days(telling, shop, ()), (0, None))
                    self.assertIs(is_lenders(telling, shop, day, (), ((), ())), True)
        self.assertEqual(rows_lent(((), ())), ())

    def test_one_row_at_both_ends(self):
        telling = ((5, (), (("a", 1),)),)
        self.assertEqual(lenders(telling, "short", 5, (("a", 1),)), (((("a", 1), (0, 0)),), ()))
        self.assertEqual([woven_days(telling, shop, (("a", 1),)) for shop in SHOPS], [(0, None), (5, None), (5, 5)])
        self.assertEqual(rows_lent((((("a", 1), (0, 0)),), ())), (0,))


class AllWovenTest(unittest.TestCase):

    def test_all_new_and_more(self):
        for at, telling in enumerate(made_up(40, 45)):
            more = made_up(40, 46)[at]
            for shop, day in itertools.product(SHOPS, (0, 1, 3, 6)):
                wanted = plain_all_woven(telling, shop, day)
                self.assertEqual(all_woven(telling, shop, day), wanted)
                answers = [row[2] for row in telling]
                self.assertEqual(new_woven(telling, shop, day), [lock for lock in wanted if lock not in answers])
                both = plain_all_woven(telling + more, shop, day)
                self.assertEqual(woven_more(telling, more, shop, day), [lock for lock in both if lock not in wanted])
                self.assertTrue(set(wanted) <= set(both))

    def test_the_best_one(self):
        dice, seen = Dice(47), set()
        for telling in made_up(40, 48):
            for shop, day in itertools.product(SHOPS, (0, 2, 4)):
                locks = plain_all_woven(telling, shop, day)
                for wish in ((), dice.wish(), dice.wish(("a", "b"), 2), (("z", (1,)),), (("c", (1, 2)), ("z", (1,)))):
                    wanted = plain_best(wish, [lock for lock in locks if plain_met(wish, lock)])
                    self.assertEqual(best_woven(telling, shop, day, wish), wanted)
                    seen.add(wanted is None)
        self.assertEqual(seen, {True, False})

    def test_on_which_days(self):
        seen = set()
        for telling in made_up(30, 49):
            for shop, lock in itertools.product(SHOPS, LOCKS[::2]):
                days = [day for day in range(8) if plain_woven(telling, shop, day, lock)]
                found = woven_days(telling, shop, lock)
                seen.add((shop, found is None))
                if found is None:
                    self.assertEqual(days, [])
                    continue
                first, last = found
                self.assertEqual(days, list(range(first, 8 if last is None else last + 1)))
                self.assertEqual(last is None, plain_woven(telling, shop, 10 ** 6, lock))
        self.assertEqual(len(seen), 6)

    def test_told_locks_are_woven_on_their_days(self):
        for telling in made_up():
            for day, _, answer in telling:
                for shop in SHOPS:
                    self.assertIn(answer or (), all_woven(telling, shop, day))

    def test_from_shop_to_shop(self):
        for telling in made_up():
            for day in range(6):
                still, growing, short = [set(all_woven(telling, shop, day)) for shop in SHOPS]
                self.assertTrue(short <= growing <= still)

    def test_just_these_stand_on_the_tight_shelf(self):
        for telling in made_up():
            for shop, day in itertools.product(SHOPS, range(5)):
                self.assertEqual(all_woven(telling, shop, day), plain_standing(plain_tight(telling, shop), day))

    def test_great_values(self):
        names = ("a", "b", "c", "d", LONG)
        row = tuple((name, 10 ** 6) for name in sorted(names))
        telling = ((10 ** 6, (), row), (0, (), row[:1])) * 6
        self.assertEqual(all_woven(telling, "short", 10 ** 6 - 1), [(), row[:1]])
        self.assertEqual(all_woven(telling, "growing", 10 ** 6), [(), row[:1], row])
        self.assertEqual(woven_days(telling, "short", row), (10 ** 6, 10 ** 6))
        self.assertEqual(woven_days(telling, "growing", row), (10 ** 6, None))

    def test_full_bounds(self):
        # Each two VERSIONS of each two NAMES are told together: all of them are woven, and none is away.
        telling = tuple((0, (), tuple(zip("abcd", (1 + one, 1 + other, 1 + (one + other) % 3, 1 + (one + 2 * other) % 3))))
                        for one in range(3) for other in range(3))
        wanted = [tuple(zip("abcd", own)) for own in itertools.product((1, 2, 3), repeat=4)]
        self.assertEqual(all_woven(telling, "still", 0), [()] + wanted)
        self.assertEqual(len(new_woven(telling, "short", 0)), 82 - 9)
        self.assertEqual(best_woven(telling, "still", 0, (("c", (1, 2)), ("a", (1,)))), tuple(zip("abcd", (1, 3, 2, 3))))
        telling = tuple((0, (), tuple((name, version) for name in "abcde")) for version in (1, 2, 3, 4)) * 3
        self.assertEqual(len(all_woven(telling, "still", 0)), 5)
        ones = tuple((0, (), tuple((name, 1) for at, name in enumerate("abcde") if bits >> at & 1))
                     for bits in (31, 1, 2, 4, 8, 16, 3, 12, 20, 9, 18, 0))
        self.assertEqual(all_woven(ones, "still", 0), plain_all_woven(ones, "still", 0))


class JudgesTest(unittest.TestCase):

    def test_lenders_with_one_flaw(self):
        fine = (((("a", 1), (0, 2)), (("c", 1), (1, 2))),
                (((("a", 1), "b", 0), 2), ((("a", 1), "c", 1), 2), ((("c", 1), "a", 1), 2), ((("c", 1), "b", 0), 2)))
        self.assertIs(is_lenders(THREE, "short", 5, AC, fine), True)
        ends, lent = fine
        for flawed in (list(fine), fine[:1], fine + ((),), (ends[::-1], lent), (ends, lent[::-1]), (ends[:1], lent),
                       (ends, lent[1:]), (ends + ends[1:], lent), (list(ends), lent), (ends, list(lent)),
                       ((ends[0], (("c", 1), (2, 1))), lent), ((ends[0], (("c", 1), (1,))), lent),
                       ((ends[0], (("c", 1), [1, 2])), lent), ((ends[0], (("c", 1), (True, 2))), lent),
                       ((ends[0], (("c", True), (1, 2))), lent), ((ends[0], (("c", 1), (1, 2, 2))), lent),
                       (ends, lent[:3] + (((("c", 1), "b", 0), 1),)), (ends, lent[:3] + (((("c", 1), "b", False), 2),)),
                       (ends, lent[:3] + (((("c", 1), "b", 0), (2,)),)), (ends, lent[:3] + (((("c", 1), "b", 0), 3),)),
                       (ends, lent[:3] + (((("c", 1), "b", 0), -1),)), None, (), ((), ())):
            self.assertIs(is_lenders(THREE, "short", 5, AC, flawed), False, flawed)
        # By another SHOP, on another DAY or of another LOCK they are none.
        self.assertIs(is_lenders(THREE, "growing", 5, AC, fine), False)
        self.assertIs(is_lenders(THREE, "short", 3, AC, fine), False)
        self.assertIs(is_lenders(THREE, "short", 5, AB, fine), False)
        growing = (tuple((own, rows[:1]) for own, rows in ends), lent)
        self.assertIs(is_lenders(THREE, "growing", 4, AC, growing), True)
        self.assertIs(is_lenders(THREE, "growing", 3, AC, growing), False)

    def test_gaps_with_one_flaw(self):
        lock = (("a", 1), ("b", 2), ("c", 1))
        for shop, day, fine in (("still", 0, ("never", ("b", 2))), ("still", 0, ("apart", ("a", 1), "b")),
                                ("short", 7, ("late", ("a", 1))), ("growing", 3, ("early", ("c", 1)))):
            self.assertIs(is_gap(THREE, shop, day, lock, fine), True)
            for flawed in (list(fine), fine[:-1], fine + (fine[-1],), ("barred",) + fine[1:], fine[::-1],
                           (fine[0], list(fine[1])) + fine[2:], (fine[0], (fine[1][0], True)) + fine[2:], (), None):
                self.assertIs(is_gap(THREE, shop, day, lock, flawed), False, flawed)
        for shop, day, thing in (("still", 9, ("late", ("a", 1))), ("growing", 9, ("late", ("a", 1))),
                                 ("still", 0, ("early", ("c", 1))), ("growing", 9, ("apart", ("b", 2), "a")),
                                 ("short", 3, ("early", ("b", 2))), ("still", 0, ("apart", ("a", 1), "a")),
                                 ("still", 0, ("apart", ("a", 1), "z")), ("still", 0, ("never", ("z", 1)))):
            self.assertIs(is_gap(THREE, shop, day, lock, thing), False, thing)

    def test_nothing_is_a_gap_of_what_is_woven(self):
        for thing in (("never", ("a", 1)), ("apart", ("a", 1), "b"), ("early", ("a", 1)), ("late", ("a", 1)), (), None):
            self.assertIs(is_gap(THREE, "still", 0, AB, thing), False)
        with self.assertRaises(NoPaper):
            gap(THREE, "still", 0, AB)


if __name__ == "__main__":
    unittest.main()
