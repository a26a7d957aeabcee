"""[13]: fewrows.py, beside plain reckonings over all sets of ROWS."""

import itertools
import unittest

from helper import SHOPS, Dice, against_ok, all_sets, least_of, outcome, plain_bad, plain_has, plain_names
from lockstold.errors import CanNot, NoRow, TooMany, Unfit
from lockstold.fewrows import (all_least_bad, bad_with, freed_by, hurts, is_bad, is_least_bad, least_bad, row_bound, rows_of,
                               shrunk)
from lockstold.told import against, has_shelf

BOTH = (("app", (1,)), ("lib", (1,)))
FOUR = ((1, BOTH[:1], (("app", 1),)), (1, BOTH[1:], (("lib", 1),)), (2, BOTH, (("app", 1), ("lib", 1))), (1, BOTH, None))
FIVE = FOUR + ((0, (("app", (2,)),), (("app", 1),)),)
LIE = (0, (("app", (2,)),), (("app", 1),))


def made_up(many, seed, rows=5, lies=0.5):
    """Pairs of a SHOP and a TELLING, many of which no SHELF tells."""
    dice = Dice(seed)
    for _ in range(many):
        shop = dice.pick(SHOPS)
        names = dice.pick((("a", "b"), ("a", "b", "c")))
        yield shop, dice.telling(names, rows=rows, lies=lies, shop=dice.pick((shop, None)))


def least(sets):
    return min(sets, key=lambda own: (len(own), own)) if sets else None


class BadSetsTest(unittest.TestCase):

    def test_beside_all_sets_of_rows(self):
        seen = set()
        for shop, telling in made_up(250, 71):
            bad = plain_bad(telling, shop)
            wanted = least_of(bad)
            seen.add(max([len(own) for own in wanted], default=0))
            for own in all_sets(len(telling)):
                self.assertIs(is_bad(telling, shop, own), own in bad, (telling, shop, own))
                self.assertIs(is_least_bad(telling, shop, own), own in wanted)
            self.assertEqual(all_least_bad(telling, shop), wanted)
            self.check_least(telling, shop, wanted)
        self.assertTrue({0, 1, 2, 3} <= seen, seen)

    def check_least(self, telling, shop, wanted):
        if wanted:
            self.assertEqual(least_bad(telling, shop), least(wanted))
        else:
            self.assertEqual(outcome(least_bad, telling, shop), ("raised", "CanNot", {}))
        for row in range(len(telling)):
            own = [each for each in wanted if row in each]
            self.assertIs(hurts(telling, shop, row), bool(own))
            if own:
                self.assertEqual(bad_with(telling, shop, row), least(own))
            else:
                self.assertEqual(outcome(bad_with, telling, shop, row), ("raised", "CanNot", {}))

    def test_shrunk(self):
        seen = set()
        for shop, telling in made_up(150, 72):
            bad = plain_bad(telling, shop)
            for own in all_sets(len(telling)):
                if own not in bad:
                    self.assertEqual(outcome(shrunk, telling, shop, own), ("raised", "CanNot", {}))
                    continue
                wanted = self.plain_shrunk(bad, own)
                self.assertEqual(shrunk(telling, shop, own), wanted)
                self.assertIn(wanted, least_of(bad))
                seen.add(len(own) - len(wanted))
        self.assertTrue({0, 1, 2, 3} <= seen)

    def plain_shrunk(self, bad, rows):
        """rows without the greatest number without which they are bad yet, again and again."""
        fit = [at for at in rows if tuple(own for own in rows if own != at) in bad]
        return self.plain_shrunk(bad, tuple(own for own in rows if own != max(fit))) if fit else rows

    def test_freed(self):
        seen = set()
        for shop, telling in made_up(200, 73):
            bad = plain_bad(telling, shop)
            every = tuple(range(len(telling)))
            if every not in bad:
                self.assertEqual(outcome(freed_by, telling, shop), ("raised", "CanNot", {}))
                continue
            wanted = tuple(at for at in every if every[:at] + every[at + 1:] not in bad)
            self.assertEqual(freed_by(telling, shop), wanted)
            # One ROW that all least bad sets have.
            self.assertEqual(set(wanted), set.intersection(*map(set, least_of(bad))))
            seen.add(len(wanted))
        self.assertTrue({0, 1, 2} <= seen)

    def test_rows_of_an_against(self):
        seen = set()
        for shop, telling in made_up(90, 74):
            if not has_shelf(telling, shop):
                found = against(telling, shop)
                wanted = {found[1]} | set(found[3] if found[0] == "better" else ())
                self.assertEqual(rows_of(telling, shop, found), tuple(sorted(wanted)))
                self.assertIs(is_bad(telling, shop, rows_of(telling, shop, found)), True)
                seen.add((found[0], len(wanted)))
        self.assertTrue({("unmet", 1), ("better", 2), ("better", 3)} <= seen)
        self.assertEqual(rows_of(FOUR, "still", ("better", 3, (("app", 1), ("lib", 1)), (2, 3))), (2, 3))
        self.assertEqual(rows_of(FIVE, "short", ["unmet", 4]), (4,))

    def test_on_the_days_of_the_rows(self):
        self.assertEqual([all_least_bad(FOUR, own) for own in SHOPS], [[(2, 3)], [(0, 1, 2, 3)], [(0, 1, 2, 3)]])
        later = FOUR + ((0, BOTH, None), (9, BOTH, None))
        self.assertEqual(all_least_bad(later, "growing"), [(0, 1, 2, 3), (2, 5)])
        self.assertEqual(all_least_bad(later, "still"), [(2, 3), (2, 4), (2, 5)])
        self.assertEqual(all_least_bad(later, "short"), [(0, 1, 2, 3)])
        self.assertEqual(all_least_bad(later[1:], "short"), [])

    def test_no_rows(self):
        for shop in SHOPS:
            self.assertEqual((is_bad((), shop, ()), is_least_bad((), shop, ()), all_least_bad((), shop)), (False, False, []))
            for function, given in ((least_bad, ((), shop)), (freed_by, ((), shop)), (shrunk, ((), shop, ())),
                                    (shrunk, (FIVE, shop, ()))):
                self.assertEqual(outcome(function, *given), ("raised", "CanNot", {}))

    def test_least_bad_sets_with_one_flaw(self):
        self.assertIs(is_least_bad(FIVE, "still", (2, 3)), True)
        for flawed in ([2, 3], (3, 2), (2,), (2, 3, 3), (1, 2, 3), (2, 5), (2, -1), (-1, 4), ("2", 3), (2, None), None, 4,
                       (True, 4), (), ((2, 3),), (2, 3, 4)):
            self.assertIs(is_least_bad(FIVE, "still", flawed), False, flawed)
        self.assertIs(is_least_bad(((0, (), ()),) + (LIE,), "still", (1,)), True)
        self.assertIs(is_least_bad(((0, (), ()),) + (LIE,), "still", (True,)), False)


class TenRowsTest(unittest.TestCase):
    """As many ROWS as all sets are gone through of: beside each set asked for itself."""

    def telling_of(self, dice):
        """Ten ROWS of which many weave others, most with a WISH that their answer meets."""
        names, most = dice.pick(("a", "ab", "abc", "abcde")), dice.pick((1, 2, 3))
        rows = []
        for _ in range(10):
            lock = tuple((name, dice.rolls.randint(1, most)) for name in dice.some(names, 1))
            name, version = dice.pick(lock)
            wish = ((name, dice.pick(((version,), tuple(range(1, most + 1))))),)
            rows.append((dice.rolls.randint(0, dice.pick((0, 3))), wish, dice.pick((lock,) * 9 + (None,))))
        return tuple(rows)

    def test_beside_each_set(self):
        dice, seen = Dice(78), set()
        for at in range(9):
            telling, shop = self.telling_of(dice), SHOPS[at % 3]
            bad = [own for own in all_sets(10) if is_bad(telling, shop, own)]
            wanted = sorted(own for own in bad if not any(own[:k] + own[k + 1:] in bad for k in range(len(own))))
            self.assertEqual(all_least_bad(telling, shop), wanted, (telling, shop))
            for row in range(10):
                self.assertIs(hurts(telling, shop, row), any(row in own for own in wanted))
            seen.add(len(wanted) > 5)
        self.assertEqual(seen, {True, False})

    def test_by_hand(self):
        either = (("lib", (1, 2)),)
        ten = tuple((day, either, (("lib", 1),)) for day in range(10))
        half = tuple((day, either, (("lib", 1 + day // 5),)) for day in range(10))
        for shop in SHOPS:
            self.assertEqual((all_least_bad(ten, shop), hurts(ten, shop, 9)), ([], False))
            self.assertEqual(all_least_bad(half[:5] + half[:5], shop), [])
        pairs = [(one, two) for one in range(5) for two in range(5, 10)]
        self.assertEqual((all_least_bad(half, "still"), all_least_bad(half, "growing"), all_least_bad(half, "short")), (pairs, [], []))
        self.assertEqual(all_least_bad(half[::-1], "growing"), [])
        turned = tuple((9 - day,) + row[1:] for day, row in enumerate(half))
        self.assertEqual((all_least_bad(turned, "growing"), all_least_bad(turned, "short")), (pairs, []))
        by_turns = tuple((day, either, (("lib", 1 + day % 2),)) for day in range(10))
        self.assertEqual(all_least_bad(by_turns, "short"), sorted(
            (one, two, three) for one, two, three in itertools.combinations(range(10), 3)
            if one % 2 == 1 and two % 2 == 0 and three % 2 == 1))
        self.assertEqual(all_least_bad((LIE,) * 10, "short"), [(at,) for at in range(10)])


class RowBoundTest(unittest.TestCase):

    def test_beside_the_greatest_number_for_some_p(self):
        for many in range(2, 60):
            for shop in SHOPS:
                sums = [p * (p - 1) // 2 + p * (many - p) + (0 if shop == "still" else p) for p in range(1, many + 1)]
                self.assertEqual(row_bound(many, shop), 1 + max(sums))

    def test_of_few_names_and_of_many(self):
        self.assertEqual([[row_bound(many, shop) for shop in SHOPS] for many in (0, 1)], [[1, 1, 1], [2, 2, 3]])
        self.assertEqual(row_bound(10 ** 6, "short"), 1 + 10 ** 6 * (10 ** 6 + 1) // 2)

    def test_no_least_bad_set_has_more_rows(self):
        reached = set()
        for shop, telling in made_up(120, 75, 7):
            for own in all_least_bad(telling, shop):
                many = len(plain_names([telling[at] for at in own]))
                self.assertLessEqual(len(own), row_bound(many, shop))
                if len(own) == row_bound(many, shop):
                    reached.add((many, shop))
        self.assertTrue({(1, "growing"), (2, "still")} <= reached, reached)

    def test_the_bound_is_reached(self):
        # Two NAMES by "growing": one ROW loses, one tells them together, one each tells them in time.
        self.assertEqual(len(least_bad(FOUR, "growing")), row_bound(2, "growing"))
        lone = (("a", (1,)),)
        within = ((0, lone, lone_lock()), (4, lone, lone_lock()), (2, lone, None))
        self.assertEqual(len(least_bad(within, "short")), row_bound(1, "short"))

    def test_unfit(self):
        for many, shop in ((-1, "still"), (True, "still"), (None, "still"), ("2", "still"), ((2,), "still"), (2, "stil"),
                           (0, None), (1, ("short",))):
            self.assertEqual(outcome(row_bound, many, shop), ("raised", "Unfit", {}))


def lone_lock():
    return (("a", 1),)


class ErrorsTest(unittest.TestCase):

    def raised(self, kind, function, *given):
        with self.assertRaises(kind, msg=(function.__name__, given)) as caught:
            function(*given)
        return caught.exception

    def calls(self, telling, shop):
        paper = ("unmet", 4)
        return [(is_bad, (telling, shop, (0,))), (is_least_bad, (telling, shop, None)), (all_least_bad, (telling, shop)),
                (least_bad, (telling, shop)), (bad_with, (telling, shop, 0)), (hurts, (telling, shop, 0)),
                (shrunk, (telling, shop, (0,))), (freed_by, (telling, shop)), (rows_of, (telling, shop, paper))]

    def test_unfit_tellings_and_shops(self):
        for telling, shop in ((None, "still"), ((None,), "still"), (((0, (), ()), (1, (), 1)), "short"), (FIVE, "big"),
                              (FIVE, None), (((-1, (), ()),), "still"), ((), ("still",)), (FIVE * 3 + (0,), "still")):
            for function, given in self.calls(telling, shop):
                self.raised(Unfit, function, *given)

    def test_unfit_rows_and_numbers(self):
        for telling in (FIVE, FIVE * 3):
            for rows in ((1, 0), (0, 0), (True,), (None,), ("0",), None, 0, ((0,),), (9, 9), (99, 7)):
                self.raised(Unfit, is_bad, telling, "still", rows)
                self.raised(Unfit, shrunk, telling, "still", rows)
            for row in (None, True, "0", (0,), ()):
                self.raised(Unfit, bad_with, telling, "still", row)
                self.raised(Unfit, hurts, telling, "still", row)
            for paper in (None, (), ("unmet", 0), ("unmet", 15), ("unmet", False), ("better", 3), ("better", 3, (), (1, 0)),
                          ("better", 3, (("app", 1), ("lib", 1)), (0, 1)), ("better", 3, (("app", 1), ("lib", 1)), (0, 99))):
                self.raised(Unfit, rows_of, telling, "still", paper)

    def test_numbers_of_no_row(self):
        for rows, number in (((5,), 5), ((0, 5, 9), 5), ((-1, 0, 9), -1), ((-7, -1), -7), ((4, 10 ** 9), 10 ** 9)):
            self.assertEqual(self.raised(NoRow, is_bad, FIVE, "still", rows).number, number)
            self.assertEqual(self.raised(NoRow, shrunk, FIVE, "short", list(rows)).number, number)
        for number in (-1, 5, 99):
            self.assertEqual(self.raised(NoRow, bad_with, FIVE, "still", number).number, number)
            self.assertEqual(self.raised(NoRow, hurts, FIVE, "still", number).number, number)
        self.assertEqual(self.raised(NoRow, is_bad, (), "still", (0,)).number, 0)

    def test_more_than_ten_rows(self):
        fine, over = FIVE * 2, FIVE * 2 + FOUR[:1]
        self.assertEqual(len(all_least_bad(fine, "still")), 4 + 2)
        self.assertEqual((least_bad(fine, "still"), bad_with(fine, "still", 8), hurts(fine, "still", 5)),
                         ((4,), (2, 8), False))
        for telling in (over, FIVE * 3):
            for function in (all_least_bad, least_bad):
                self.raised(TooMany, function, telling, "still")
            for function in (bad_with, hurts):
                self.raised(TooMany, function, telling, "still", 0)
                self.raised(NoRow, function, telling, "still", len(telling))
            # The others go through no sets.
            self.assertIs(is_bad(telling, "still", (0, 2, 8)), True)
            self.assertIs(is_least_bad(telling, "still", (2, 8)), True)
            self.assertEqual(shrunk(telling, "still", tuple(range(len(telling)))), (2, 3))
            self.assertEqual(freed_by(telling[:-1] + (LIE,), "still"), ())
        self.raised(TooMany, least_bad, ((0, (), ()),) * 11, "still")
        self.raised(TooMany, bad_with, ((0, (), ()),) * 11, "still", 0)

    def test_cannot(self):
        self.raised(CanNot, least_bad, ((0, (), ()),) * 10, "still")
        self.raised(CanNot, shrunk, FIVE, "still", (0, 1, 2))
        self.raised(CanNot, freed_by, FOUR[:3], "still")
        self.raised(CanNot, bad_with, FIVE, "still", 1)


class GuaranteesTest(unittest.TestCase):

    def test_what_has_a_bad_part_is_bad(self):
        for shop, telling in made_up(30, 76):
            sets = {own: is_bad(telling, shop, own) for own in all_sets(len(telling))}
            for own, bad in sets.items():
                for at in own:
                    self.assertTrue(bad or not sets[tuple(each for each in own if each != at)])

    def test_the_rows_of_any_against_are_bad(self):
        many = 0
        for shop, telling in made_up(25, 77, 3, 0.6):
            for rows in all_sets(len(telling)):
                for at in range(len(telling)):
                    for lock in itertools.chain([()], [row[2] for row in telling if row[2]]):
                        thing = ("better", at, lock, rows)
                        if against_ok(telling, shop, thing):
                            many += 1
                            self.assertFalse(plain_has([telling[own] for own in rows_of(telling, shop, thing)], shop))
        self.assertGreater(many, 20)


if __name__ == "__main__":
    unittest.main()
