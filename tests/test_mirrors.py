"""[17]: mirrors.py, beside plain reckonings over all ways to put ROWS in sets."""

import itertools
import unittest

from helper import SHOPS, Dice, all_deals, all_sets, least_of, outcome, plain_bad, plain_tight, plain_unmet
from lockstold.errors import CanNot, NoRow, TooMany, Unfit
from lockstold.liars import fewest_out
from lockstold.mirrors import (apart_rows, can_share, dealt, fewest_mirrors, how_many_deals, is_apart_rows, is_dealt, lone_rows,
                               mirror_shelves, same_mirror, shared_by_all)
from lockstold.told import has_shelf

PLAIN, FRESH = (("cup", 1), ("tea", 1)), (("cup", 2), ("tea", 1))
HEARD = ((0, (("tea", (1,)),), PLAIN), (1, (("tea", (1,)),), FRESH), (2, (("cup", (1, 2)),), (("cup", 1),)), (3, (), ()))
LIE = (5, (("cup", (3,)),), PLAIN)
ANY = (("a", (1, 2, 3, 4)),)


def made_up(many, seed, rows=5, lies=0.5):
    dice = Dice(seed)
    yield "still", ()
    for _ in range(many):
        shop = dice.pick(SHOPS)
        names = dice.pick((("a", "b"), ("a", "b", "c")))
        yield shop, dice.telling(names, rows=rows, lies=lies, shop=dice.pick((shop, None)))


def plain_deals(telling, shop):
    bad = plain_bad(telling, shop)
    return [own for own in all_deals(len(telling)) if not any(part in bad for part in own)]


def are_apart(bad, rows):
    return all(own in bad for own in itertools.combinations(rows, 2))


class DealsTest(unittest.TestCase):

    def test_all_ways_to_put_rows_in_sets(self):
        self.assertEqual([len(all_deals(many)) for many in range(7)], [1, 1, 2, 5, 15, 52, 203])

    def test_beside_all_deals(self):
        seen = set()
        for shop, telling in made_up(170, 171):
            deals = plain_deals(telling, shop)
            for most in range(-1, len(telling) + 2):
                self.assertEqual(how_many_deals(telling, shop, most), sum(len(own) <= most for own in deals))
            if not deals:
                self.check_none(telling, shop)
                seen.add("none")
                continue
            fewest = min(map(len, deals))
            self.assertEqual(fewest_mirrors(telling, shop), fewest, (telling, shop))
            found = dealt(telling, shop)
            self.assertIn(found, deals)
            self.assertEqual(len(found), fewest)
            best = [own for own in deals if len(own) == fewest]
            for one, other in itertools.product(range(len(telling)), repeat=2):
                wanted = any(one in part and other in part for own in best for part in own)
                self.assertIs(same_mirror(telling, shop, one, other), wanted)
            seen.add(fewest)
        self.assertTrue({"none", 0, 1, 2, 3} <= seen, seen)

    def check_none(self, telling, shop):
        for function, more in ((fewest_mirrors, ()), (dealt, ()), (same_mirror, (0, 0))):
            self.assertEqual(outcome(function, telling, shop, *more), ("raised", "CanNot", {}))

    def test_there_is_none_exactly_if_a_row_is_bad_alone(self):
        for shop, telling in made_up(150, 172):
            alone = any(plain_unmet(row) or (row[1] == () and row[2] != ()) for row in telling)
            self.assertEqual(how_many_deals(telling, shop, len(telling)) == 0, alone)
            self.assertEqual(all(can_share(telling, shop, (at,)) for at in range(len(telling))), not alone)

    def test_which_are_deals(self):
        for shop, telling in made_up(60, 173, 4):
            deals = plain_deals(telling, shop)
            for own in all_deals(len(telling)):
                self.assertIs(is_dealt(telling, shop, own), own in deals)
            for own in itertools.combinations(all_sets(len(telling)), 2):
                self.assertIs(is_dealt(telling, shop, own), own in deals)

    def test_deals_with_one_flaw(self):
        fine = ((0, 2), (1, 3))
        self.assertIs(is_dealt(HEARD, "still", fine), True)
        for flawed in (list(fine), fine[::-1], ((), (0, 2), (1, 3)), ([0, 2], (1, 3)), ((2, 0), (1, 3)), ((0, 2), (1, 3), (1, 3)),
                       ((0, 2), (1,)), ((0, 2), (1, 2, 3)), ((0, 2), (1, 3, 4)), ((-1, 0, 2), (1, 3)), ((0, 2), (True, 3)),
                       ((False, 2), (1, 3)), ((0, 1), (2, 3)), ((0, 1, 2, 3),), ((0, 0, 2), (1, 3)), ((0, 2), 1, 3), (0, 1, 2, 3),
                       (), None, "01", ((0, 2), None), ((0, 2), (1, "3")), (((0, 2), (1, 3)),)):
            self.assertIs(is_dealt(HEARD, "still", flawed), False, flawed)
        self.assertIs(is_dealt(HEARD, "short", ((0, 1, 2, 3),)), True)
        self.assertIs(is_dealt((), "short", ()), True)
        self.assertIs(is_dealt((), "short", ((),)), False)

    def test_beside_rows_left_out(self):
        for shop, telling in made_up(80, 174):
            if how_many_deals(telling, shop, 9):
                many = fewest_mirrors(telling, shop)
                self.assertEqual(many <= 1, has_shelf(telling, shop))
                self.assertLessEqual(many, fewest_out(telling, shop) + 1)
                self.assertGreaterEqual(many, len(apart_rows(telling, shop)))

    def test_more_mirrors_than_rows_apart(self):
        # Three ROWS weave together what the fourth one tells there is not; of less than all nothing is bad.
        one = (1,)
        names = (("a", "b"), ("b", "c"), ("a", "c"))
        hoop = tuple((0, tuple((name, one) for name in own), tuple((name, 1) for name in own)) for own in names)
        torn = hoop + ((0, (("a", one), ("b", one), ("c", one)), None),)
        self.assertEqual((fewest_mirrors(torn, "still"), apart_rows(torn, "still"), shared_by_all(torn, "still")), (2, (0,), ()))
        self.assertEqual(how_many_deals(torn, "still", 4), 15 - 1)
        self.assertEqual((lone_rows(torn, "still"), fewest_mirrors(hoop, "still")), ((), 1))

    def test_of_no_rows_and_of_seven(self):
        for shop in SHOPS:
            self.assertEqual((fewest_mirrors((), shop), dealt((), shop), mirror_shelves((), shop, ())), (0, (), []))
            self.assertEqual([how_many_deals((), shop, most) for most in (-1, 0, 1)], [0, 1, 1])
            alike = ((0, ANY, (("a", 1),)),) * 7
            self.assertEqual((fewest_mirrors(alike, shop), dealt(alike, shop)), (1, (tuple(range(7)),)))
            # So many ways are there to put seven things in sets.
            self.assertEqual([how_many_deals(alike, shop, most) for most in (0, 1, 2, 6, 7, 10 ** 9)], [0, 1, 64, 876, 877, 877])
            self.assertIs(same_mirror(alike, shop, 0, 6), True)
        four = tuple((0, ANY, (("a", version),)) for version in (1, 2, 3, 4, 1, 2, 3))
        self.assertEqual((fewest_mirrors(four, "short"), how_many_deals(four, "still", 4)), (4, 2 ** 0 * 1))
        self.assertEqual((dealt(four, "growing"), same_mirror(four, "still", 0, 4), same_mirror(four, "still", 0, 1)),
                         (((0, 4), (1, 5), (2, 6), (3,)), True, False))


class SharedTest(unittest.TestCase):

    def test_beside_all_sets_of_rows(self):
        seen = set()
        for shop, telling in made_up(150, 176):
            bad = plain_bad(telling, shop)
            every = range(len(telling))
            for own in all_sets(len(telling)):
                self.assertIs(can_share(telling, shop, own), own not in bad)
                self.assertIs(is_apart_rows(telling, shop, own), are_apart(bad, own))
            wanted = tuple(at for at in every if not any(at in own for own in least_of(bad)))
            self.assertEqual(shared_by_all(telling, shop), wanted)
            for at in wanted:
                for own in all_sets(len(telling)):
                    self.assertEqual(own in bad, tuple(sorted({*own, at})) in bad)
            lone = tuple(at for at in every if all((min(at, own), max(at, own)) in bad for own in every if own != at))
            self.assertEqual(lone_rows(telling, shop), lone)
            most = max(len(own) for own in all_sets(len(telling)) if are_apart(bad, own))
            found = apart_rows(telling, shop)
            self.assertEqual(len(found), most)
            self.assertIs(is_apart_rows(telling, shop, found), True)
            seen.add((bool(wanted), bool(lone), most))
        self.assertTrue({(True, False, 1), (False, True, 2), (False, True, 3), (True, False, 2), (True, True, 3)} <= seen, seen)

    def test_of_no_row_and_of_one(self):
        for shop in SHOPS:
            self.assertEqual((shared_by_all((), shop), lone_rows((), shop), apart_rows((), shop)), ((), (), ()))
            self.assertIs(can_share((), shop, ()), True)
            # A ROW that is by itself shares with no other one; so does a ROW that is bad alone.
            self.assertEqual((shared_by_all(HEARD[:1], shop), lone_rows(HEARD[:1], shop), apart_rows(HEARD[:1], shop)),
                             ((0,), (0,), (0,)))
            self.assertEqual((shared_by_all((LIE,), shop), lone_rows((LIE,), shop), apart_rows((LIE,), shop)), ((), (0,), (0,)))
            self.assertEqual((lone_rows(HEARD[:1] + (LIE,), shop), apart_rows((LIE,) * 10, shop)), ((0, 1), tuple(range(10))))

    def test_rows_apart_with_one_flaw(self):
        self.assertIs(is_apart_rows(HEARD, "still", (0, 1)), True)
        for flawed in ([0, 1], (1, 0), (0, 2), (0, 1, 2), (0, 0), (0, 4), (-1, 0), (False, 1), (0, "1"), (0, None), ((0, 1),), None, 0):
            self.assertIs(is_apart_rows(HEARD, "still", flawed), False, flawed)
        self.assertIs(is_apart_rows(HEARD, "short", (0, 1)), False)

    def test_shelves_of_a_deal(self):
        for shop, telling in made_up(60, 177):
            for own in plain_deals(telling, shop):
                wanted = [plain_tight([telling[at] for at in part], shop) for part in own]
                self.assertEqual(mirror_shelves(telling, shop, own), wanted)


class ErrorsTest(unittest.TestCase):

    def raised(self, kind, function, *given):
        with self.assertRaises(kind, msg=(function.__name__, given)) as caught:
            function(*given)
        return caught.exception

    def test_numbers_of_no_row(self):
        for telling in (HEARD, HEARD * 3, (), (LIE,)):
            many = len(telling)
            for number in (-1, many, 99, -(10 ** 9)):
                self.assertEqual(self.raised(NoRow, can_share, telling, "still", (number,)).number, number)
                self.assertEqual(self.raised(NoRow, same_mirror, telling, "still", number, -7).number, number)
            self.assertEqual(self.raised(NoRow, can_share, telling, "still", [-3, -2, 99]).number, -3)
            self.assertEqual(self.raised(NoRow, same_mirror, telling + HEARD[:1], "still", 0, many + 1).number, many + 1)

    def test_more_than_seven_rows(self):
        fine, over = HEARD + HEARD[1:], HEARD * 2
        self.assertEqual((fewest_mirrors(fine, "still"), len(dealt(fine, "still")), how_many_deals(fine, "still", 1)), (2, 2, 0))
        for telling in (over, HEARD * 3, over[:-1] + (LIE,)):
            for function, more in ((fewest_mirrors, ()), (dealt, ()), (how_many_deals, (2,)), (how_many_deals, (-1,)),
                                   (same_mirror, (0, 1)), (same_mirror, (7, 7))):
                self.raised(TooMany, function, telling, "still", *more)
        self.assertIs(is_dealt(over, "still", ((0, 2, 3, 4, 6, 7), (1, 5))), True)
        self.assertEqual(len(mirror_shelves(HEARD * 3, "still", ((0, 2, 3, 4, 6, 7, 8, 10, 11), (1, 5, 9)))), 2)
        self.assertIs(can_share(HEARD * 3, "still", (0, 4, 8)), True)

    def test_more_than_ten_rows(self):
        fine = HEARD * 2 + HEARD[2:]
        self.assertEqual((shared_by_all(fine, "still"), apart_rows(fine, "still") in ((0, 1), (1, 2), (0, 5), (1, 4))), ((3, 7, 9), True))
        for telling in (fine + HEARD[3:], HEARD * 3):
            self.raised(TooMany, shared_by_all, telling, "still")
            self.raised(TooMany, apart_rows, telling, "still")
            self.assertEqual(lone_rows(telling, "still"), ())
            self.assertIs(is_apart_rows(telling, "still", (1, 4)), True)

    def test_cannot(self):
        for telling in ((LIE,), HEARD + ((4, (), PLAIN),), (LIE,) * 7, ((0, (), None),)):
            for shop in SHOPS:
                self.raised(CanNot, fewest_mirrors, telling, shop)
                self.raised(CanNot, dealt, telling, shop)
                self.raised(CanNot, same_mirror, telling, shop, 0, 0)
                self.assertEqual(how_many_deals(telling, shop, 9), 0)

    def test_unfit_deals(self):
        for deal in ((), ((0, 1), (2, 3)), ((0, 2), (1, 3), (4,)), ((0, 2), (1,)), ((0, 2), (1, 3, -1)), ((1, 3), (0, 2)),
                     [[0, 2], [3, 1]], ((0, 2), (1, 99)), ((), (0, 2), (1, 3)), ((0, 2), (1, 2, 3))):
            self.raised(Unfit, mirror_shelves, HEARD, "still", deal)
        self.raised(Unfit, mirror_shelves, HEARD * 3, "still", ((0, 1),))
        self.assertEqual(len(mirror_shelves(HEARD, "still", [[0, 2], [1, 3]])), 2)


if __name__ == "__main__":
    unittest.main()
