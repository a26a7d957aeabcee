"""[19]: windows.py, beside a slow search of all SHELVES of a small universe, each DAY tried, and all orders of ROWS."""

import itertools
import unittest

from helper import SHOPS, Dice, JudgeCase, all_sets, outcome, plain_all_woven, plain_beats, plain_has, plain_there, plain_tight
from histories import RELEASES, all_histories, all_shelves, answer_among, has_on, made_up_telling, shelf_tells
from papers import day_knot_ok, day_order_ok, plain_knot, plain_order
from lockstold.errors import CanNot, NoPaper, NoRow
from lockstold.windows import (day_knot, day_order, days_for, earliest_day, gone_rows, is_day_knot, is_day_order, latest_day,
                               shop_needed, window_of)

EITHER = (("a", (1, 2)),)
STEPS = ((1, EITHER, (("a", 1),)), (4, EITHER, (("a", 2),)))
BACK = STEPS + ((7, EITHER, (("a", 1),)),)
CROSS = ((0, EITHER, (("a", 1), ("b", 2))), (5, (("b", (1, 2)),), (("a", 2), ("b", 1))))


def small(many, seed, lies=0.1):
    """Pairs of a SHOP and a TELLING of the small universe, half of them of WISHES that let all of a NAME."""
    dice = Dice(seed)
    for at in range(many):
        shop = dice.pick(SHOPS)
        if at % 2:
            yield shop, made_up_telling(dice, shop, dice.pick((1, 2, 3)), dice.pick((0, lies)))
        else:
            history, _ = dice.pick(all_histories(shop))
            asked = [(day, dice.pick((EITHER, EITHER, (("b", (1,)), ("a", (1, 2)))))) for day in dice.some((0, 1, 2), 2)]
            yield shop, tuple((day, wish, answer_among(history[day], wish)) for day, wish in asked)


def wide(many, seed, rows=4, days=6):
    dice = Dice(seed)
    for _ in range(many):
        shop = dice.pick(SHOPS)
        yield shop, dice.telling(dice.pick((("a",), ("a", "b"), ("a", "b", "c"))), rows=rows, days=days,
                                 lies=dice.pick((0, 0.1)), shop=dice.pick((shop, "growing", "short")))


def told_releases(telling):
    return sorted({own for row in telling if row[2] for own in row[2]})


class DaysTest(unittest.TestCase):

    def test_beside_all_shelves(self):
        seen = set()
        for shop, telling in small(110, 191):
            tellers = [own for own in all_shelves(shop) if shelf_tells(own, telling)]
            told = told_releases(telling)
            for release in RELEASES:
                if release not in told or not tellers:
                    self.check_none(telling, shop, release)
                    seen.add((shop, "none"))
                    continue
                # The universe has DAYS to 2 alone: whoever has a RELEASE on its last one has it for ever.
                days = [day for day in (0, 1, 2) if any(has_on(own, release, day) for own in tellers)]
                self.assertEqual(earliest_day(telling, shop, release), days[0], (telling, shop, release))
                found = latest_day(telling, shop, release)
                self.assertEqual(min(2, 2 if found is None else found), days[-1], (telling, shop, release))
                gone = tuple(at for at, row in enumerate(telling) if row[0] not in days)
                self.assertEqual(gone_rows(telling, shop, release), gone)
                seen.add((shop, bool(gone), days[0] > 0, days[-1] < 2))
        wanted = {(shop, "none") for shop in SHOPS} | {("still", False, False, False), ("growing", True, True, False),
                                                        ("short", True, True, False), ("short", True, False, True)}
        self.assertTrue(wanted <= seen, seen)

    def check_none(self, telling, shop, release):
        for function in (earliest_day, latest_day, gone_rows):
            self.assertEqual(outcome(function, telling, shop, release), ("raised", "CanNot", {}))

    def test_each_day_tried(self):
        seen = set()
        for shop, telling in itertools.chain(wide(60, 192), small(60, 197)):
            for release in told_releases(telling):
                if not plain_has(telling, shop):
                    self.check_none(telling, shop, release)
                    continue
                days = [row[0] for row in telling if row[2] and release in row[2]]
                self.assertEqual(window_of(telling, release), (min(days), max(days)))
                first, last = earliest_day(telling, shop, release), latest_day(telling, shop, release)
                self.assertLessEqual(first, min(days))
                self.assertTrue(last is None or last >= max(days))
                for day in range(10):
                    can = first <= day and (last is None or day <= last)
                    self.assertEqual(self.can_be_on(telling, shop, release, day), can, (telling, shop, release, day))
                    seen.add((shop, can))
        self.assertEqual(seen, {(shop, can) for shop in SHOPS for can in (True, False)} - {("still", False)})

    def can_be_on(self, telling, shop, release, day):
        """Whether no ROW has a better LOCK if the RELEASE is there from day to its window, and as told else."""
        days = [row[0] for row in telling if row[2] and release in row[2]] + [day]
        for own, wish, answer in telling:
            there = there_on(telling, shop, own)
            if shop == "still" or (min(days) <= own and (shop == "growing" or own <= max(days))):
                there = there + [release]
            woven = [lock for lock in plain_all_woven(telling, "still", own) if set(lock) <= set(there)]
            if any(plain_beats(lock, (own, wish, answer)) for lock in woven):
                return False
        return True

    def test_by_hand(self):
        self.assertEqual([earliest_day(BACK, "short", own) for own in ((("a", 1)), ("a", 2))], [0, 2])
        self.assertEqual([latest_day(BACK, "short", own) for own in ((("a", 1)), ("a", 2))], [None, 6])
        self.assertEqual((window_of(BACK, ["a", 2]), window_of(CROSS, ("b", 2))), ((4, 4), (0, 0)))
        self.assertEqual([gone_rows(BACK, "short", own) for own in (("a", 1), ("a", 2))], [(), (0, 2)])
        great = ((10 ** 6, EITHER, (("a", 2),)), (10 ** 6 - 1, EITHER, (("a", 1),)), (3, EITHER, (("a", 1),)))
        self.assertEqual((earliest_day(great, "growing", ("a", 2)), latest_day(great, "short", ("a", 2)), gone_rows(great, "short", ("a", 2))),
                         (10 ** 6, None, (1, 2)))
        self.assertEqual((earliest_day(great, "short", ("a", 1)), latest_day(great, "short", ("a", 1))), (0, None))

    def test_of_releases_that_are_not_told(self):
        for telling in ((), STEPS, CROSS, ((0, (), None),)):
            for release in (("a", 3), ("z", 1), ["b", 9]):
                self.assertEqual(outcome(window_of, telling, release), ("raised", "CanNot", {}))
                for shop in SHOPS:
                    self.check_none(telling, shop, release)

    def test_of_rows_that_no_shelf_tells(self):
        for telling, shop in ((STEPS, "still"), (BACK, "growing"), (CROSS, "growing"), (STEPS + ((9, (), None),), "short")):
            self.check_none(telling, shop, ("a", 2))
            self.assertEqual(window_of(telling, ("a", 2))[0], 4 if telling != CROSS else 5)


def there_on(telling, shop, day):
    """The RELEASES that are there on day on the TIGHT SHELF."""
    return sorted(plain_there(plain_tight(telling, shop), day))


class DaysForTest(unittest.TestCase):

    def test_each_day_tried(self):
        seen = set()
        for shop, telling in wide(110, 193):
            for at, row in enumerate(telling):
                found = days_for(telling, shop, at)
                within = [day for day in range(10) if any(first <= day and (last is None or day <= last) for first, last in found)]
                wanted = [day for day in range(10) if plain_has(telling[:at] + ((day,) + row[1:],) + telling[at + 1:], shop)]
                self.assertEqual(within, wanted, (telling, shop, at))
                # As wide as can be, one behind the other.
                flat = [day for own in found for day in own]
                self.assertTrue(all(one is not None for one in flat[:-1]))
                self.assertTrue(all(one[1] + 1 < two[0] for one, two in zip(found, found[1:])))
                seen.add((shop, len(found), bool(found) and found[-1][1] is None))
        wanted = {("still", 0, False), ("still", 1, True), ("growing", 0, False), ("growing", 1, True), ("growing", 1, False),
                  ("short", 1, True), ("short", 2, True)}
        self.assertTrue(wanted <= seen, seen)

    def test_by_hand(self):
        self.assertEqual([days_for(BACK, "short", at) for at in range(3)],
                         [((0, 3), (5, None)), ((0, 0), (2, 6), (8, None)), ((0, 3), (5, None))])
        self.assertEqual(days_for(((10 ** 6, (), ()),), "short", 0), ((0, None),))
        self.assertEqual(days_for(((10 ** 6, (), None),), "short", 0), ())

    def test_numbers_of_no_row(self):
        for telling in ((), STEPS, CROSS * 6):
            for number in (-1, len(telling), 99):
                with self.assertRaises(NoRow) as caught:
                    days_for(telling, "growing", number)
                self.assertEqual(caught.exception.number, number)


class ShopNeededTest(unittest.TestCase):

    def test_beside_plain_reckoning(self):
        seen = set()
        for _, telling in wide(120, 194):
            wanted = next((shop for shop in SHOPS if plain_has(telling, shop)), None)
            self.assertEqual(shop_needed(telling), wanted)
            seen.add(wanted)
        self.assertEqual(seen, {"still", "growing", "short", None})


class OrdersTest(JudgeCase):

    def crossed(self, many, seed):
        """TELLINGS in which what comes later is often better for both."""
        dice = Dice(seed)
        for _ in range(many):
            found = []
            for _ in range(dice.pick((0, 1, 2, 3, 4))):
                name = dice.pick("ab")
                answer = tuple((own, dice.rolls.randint(1, 2)) for own in dice.pick(("a", "b", "ab", "ab")))
                wish = ((name, (1, 2)),) if name in dict(answer) or dice.rolls.random() < 0.1 else ((answer[0][0], (1, 2)),)
                found.append((dice.rolls.randint(0, 3), wish, answer))
            yield tuple(found)

    def test_beside_all_orders_and_all_sets_of_rows(self):
        seen = set()
        for telling in itertools.chain(self.crossed(120, 195), [own for _, own in wide(60, 196)]):
            many = len(telling)
            orders = [own for own in itertools.permutations(range(many)) if plain_order(telling, own)]
            knots = [own for own in all_sets(many) if plain_knot(telling, own)]
            self.assertEqual(bool(orders), not knots)
            if orders:
                self.assertIn(day_order(telling), orders)
                self.assertEqual(outcome(day_knot, telling), ("raised", "NoPaper", {}))
            else:
                self.assertIn(day_knot(telling), knots)
                self.assertEqual(outcome(day_order, telling), ("raised", "CanNot", {}))
            for own in itertools.permutations(range(many)):
                self.assertIs(is_day_order(telling, own), own in orders)
            for own in all_sets(many):
                self.assertIs(is_day_knot(telling, own), own in knots)
            seen.add((len(orders), len(knots[0]) if knots else 0))
        self.assertTrue({(1, 0), (2, 0), (3, 0), (24, 0), (0, 1), (0, 2)} <= seen, seen)

    def test_a_ring_of_three(self):
        # Each one has what is better for the one behind it.
        names = ("abc", "bca", "cab")
        ring = tuple((0, ((own[0], (1, 2)),), tuple(sorted(((own[0], 1), (own[1], 2))))) for own in names)
        self.assertEqual((day_knot(ring), is_day_knot(ring, (0, 1)), day_order(ring[:2]), day_order(ring[1:])),
                         ((0, 1, 2), False, (1, 0), (1, 0)))
        lone = tuple((0, ((own, (1, 2)),), ((own, 1),)) for own in "ab") + tuple((0, ((own, (1, 2)),), ((own, 2),)) for own in "ab")
        self.assertEqual(day_order(lone), (0, 1, 2, 3))
        self.assertEqual(day_order(lone[::-1]), (2, 3, 0, 1))
        self.assertEqual(day_knot(CROSS + lone), (0, 1, 2, 3))
        self.assertEqual([is_day_knot(CROSS + lone, own) for own in ((0, 1), (0, 1, 2), (0, 2), (2, 3), (0, 1, 4))],
                         [True, True, False, False, False])
        self.assertEqual(day_knot(CROSS + ((0, (), None),)), (0, 1, 2))

    def test_of_twelve_rows(self):
        many = tuple((0, (("a", tuple(range(1, 13))),), (("a", version),)) for version in range(12, 0, -1))
        self.assertEqual(day_order(many), tuple(range(11, -1, -1)))
        self.assertIs(is_day_order(many, tuple(range(11, -1, -1))), True)
        self.assertIs(is_day_order(many, tuple(range(12))), False)
        self.assertEqual(day_knot(((0, EITHER, (("b", 1),)),) * 12), tuple(range(12)))

    def test_judges(self):
        self.check(lambda thing: is_day_order(BACK, thing), lambda thing: day_order_ok(BACK, thing), list(itertools.permutations(range(3))) + [(0, 1, 2, 3)])
        self.check(lambda thing: is_day_order((), thing), lambda thing: type(thing) is tuple and thing == (), [()])
        knotted = CROSS + ((2, EITHER, (("b", 1),)), (3, (), ()))
        self.check(lambda thing: is_day_knot(knotted, thing), lambda thing: day_knot_ok(knotted, thing),
                   [(0, 1), (0, 1, 2), (2,), (2, 3), ()])

    def test_errors(self):
        for telling in (CROSS, ((0, (), None),), BACK + CROSS):
            with self.assertRaises(CanNot):
                day_order(telling)
        for telling in ((), BACK, STEPS):
            with self.assertRaises(NoPaper):
                day_knot(telling)


if __name__ == "__main__":
    unittest.main()
