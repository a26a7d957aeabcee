"""[20]: changes.py, beside a plain play of CHANGES and a slow search of all ways from one TELLING to another."""

import itertools
import unittest

import helper
from helper import SHOPS, Dice, JudgeCase, number_ok, outcome, plain_has, row_ok, same
from lockstold.changes import (all_changed, back_from, changed, changes_between, days_numbered, days_turned, disputed, fewest_changes,
                               first_break, is_change, is_changes_between, names_changed, rows_without)
from lockstold.errors import NoRow, Unfit

NEAR, FAR = (0, (("app", (1, 2)),), (("app", 2),)), (0, (("app", (1,)),), (("app", 1), ("lib", 1)))
LATE = (3, (("app", (1,)),), (("app", 1),))
TELL = (NEAR, FAR)
# A small world of ROWS for the slow search.
WISHES, ANSWERS, DAYS = ((), (("a", (1,)),)), (None, (("a", 1),)), (0, 1)
ROWS = tuple(itertools.product(DAYS, WISHES, ANSWERS))


def change_ok(thing):
    if type(thing) is not tuple or len(thing) < 2 or type(thing[0]) is not str or not number_ok(thing[1], 0):
        return False
    if thing[0] == "back":
        return len(thing) == 2
    if len(thing) != 3:
        return False
    fit = {"told": row_ok, "shift": lambda own: number_ok(own, 0), "other": lambda own: own is None or helper.lock_ok(own)}
    return thing[0] in fit and fit[thing[0]](thing[2])


def plain_changed(telling, change):
    """The list of the ROWS behind change, None if a number is none of a ROW."""
    found, number = list(telling), change[1]
    if not 0 <= number < len(found) + (change[0] == "told"):
        return None
    if change[0] == "told":
        found.insert(number, change[2])
    elif change[0] == "back":
        del found[number]
    elif change[0] == "shift":
        found[number] = (change[2], found[number][1], found[number][2])
    else:
        found[number] = (found[number][0], found[number][1], change[2])
    return tuple(found)


def all_steps(telling, rows=ROWS):
    """All CHANGES that a TELLING can have within the small world."""
    for number in range(len(telling)):
        yield ("back", number)
        yield from (("shift", number, day) for day in DAYS)
        yield from (("other", number, answer) for answer in ANSWERS)
    for number in range(len(telling) + 1):
        yield from (("told", number, row) for row in rows)


def all_distances(start, most):
    """How many CHANGES lead from start to each TELLING of at most so many ROWS, within the small world."""
    found, edge, many = {start: 0}, [start], 0
    while edge:
        many += 1
        fresh = {plain_changed(own, step) for own in edge for step in all_steps(own) if len(own) < most or step[0] != "told"}
        edge = [own for own in fresh if own not in found]
        found.update((own, many) for own in edge)
    return found


def made_up_changes(dice, telling, many):
    """CHANGES of telling, one after another."""
    found = []
    for _ in range(many):
        number = dice.rolls.randint(0, len(telling))
        change = ("told", number, dice.pick(dice.telling(("a", "b"), rows=2) or ((0, (), ()),)))
        if telling and dice.rolls.random() < 0.7:
            number = min(number, len(telling) - 1)
            change = dice.pick((("back", number), ("shift", number, dice.rolls.randint(0, 4)),
                                ("other", number, dice.pick((None, dice.lock(("a", "b"), 2))))))
        found.append(change)
        telling = plain_changed(telling, change)
    return tuple(found)


class ChangesTest(JudgeCase):

    def test_which_are_changes(self):
        seeds = [("told", 0, NEAR), ("told", 9, (3, (), None)), ("back", 0), ("back", 10 ** 9), ("shift", 1, 5), ("shift", 0, 0),
                 ("other", 2, None), ("other", 2, ()), ("other", 0, (("app", 2), ("lib", 10 ** 9))), ("tell", 0, NEAR), ("drop", 0)]
        self.check(is_change, change_ok, seeds)

    def test_beside_a_plain_play(self):
        dice, seen = Dice(201), set()
        for _ in range(150):
            telling = dice.telling(("a", "b"), rows=4)
            changes = made_up_changes(dice, telling, dice.pick((0, 1, 3, 6)))
            wanted = [telling]
            for change in changes:
                wanted.append(plain_changed(wanted[-1], change))
                self.assertTrue(same(changed(wanted[-2], change), wanted[-1]))
                back = back_from(wanted[-2], change)
                self.assertTrue(change_ok(back))
                self.assertEqual(changed(wanted[-1], back), wanted[-2])
                self.assertEqual(back[0], {"told": "back", "back": "told"}.get(change[0], change[0]))
            self.assertTrue(same(all_changed(telling, changes), wanted[-1]))
            for shop in SHOPS:
                fit = [plain_has(own, shop) for own in wanted]
                breaks = [at for at in range(len(changes)) if fit[at] and not fit[at + 1]]
                self.assertEqual(first_break(telling, shop, changes), breaks[0] if breaks else None)
                seen.add(breaks[0] if breaks else None)
        self.assertTrue({None, 0, 1, 2} <= seen, seen)

    def test_by_hand(self):
        self.assertEqual(changed(TELL, ("told", 0, LATE)), (LATE, NEAR, FAR))
        self.assertEqual(changed(TELL, ("told", 2, LATE)), (NEAR, FAR, LATE))
        self.assertEqual((changed((), ("told", 0, LATE)), changed((LATE,), ("back", 0)), all_changed(TELL, ())), ((LATE,), (), TELL))
        self.assertEqual(changed(TELL, ["other", 1, [["app", 1]]]), (NEAR, FAR[:2] + ((("app", 1),),)))
        self.assertEqual(changed(TELL, ("other", 0, None)), (NEAR[:2] + (None,), FAR))
        self.assertEqual([back_from(TELL, own) for own in (("told", 2, LATE), ("back", 1), ["shift", 1, 0], ["other", 1, []])],
                         [("back", 2), ("told", 1, FAR), ("shift", 1, 0), ("other", 1, FAR[2])])
        self.assertIsNone(first_break(TELL, "still", ()))
        # Told by no SHELF from the first on: nothing breaks.
        none = ((0, (), None),)
        self.assertIsNone(first_break(none, "still", (("told", 0, NEAR), ("told", 0, none[0]))))
        self.assertEqual(first_break(none, "still", (("back", 0), ("told", 0, NEAR), ("told", 1, none[0]))), 2)
        self.assertEqual(first_break((), "short", (("told", 0, none[0]), ("back", 0), ("told", 0, none[0]))), 0)

    def test_numbers_of_no_row(self):
        for telling in ((), TELL, TELL * 6):
            many = len(telling)
            for change in (("told", many + 1, LATE), ("back", many), ("shift", many, 3), ("other", many, None), ("back", 99), ("told", 99, LATE)):
                for function, given in ((changed, (telling, change)), (back_from, (telling, change)),
                                        (all_changed, (telling, (change,))), (first_break, (telling, "still", (change,)))):
                    with self.assertRaises(NoRow, msg=function.__name__) as caught:
                        function(*given)
                    self.assertEqual(caught.exception.number, change[1])
        # The first that fails decides, counted in what comes of those ahead, also behind a break.
        for function, given in ((all_changed, (TELL,)), (first_break, (TELL, "still"))):
            for changes, number in (((("back", 1), ("back", 1), ("back", 7)), 1), ((("other", 0, None), ("back", 2)), 2),
                                    ((("told", 2, LATE), ("told", 3, LATE), ("told", 5, LATE)), 5)):
                with self.assertRaises(NoRow) as caught:
                    function(*given, changes)
                self.assertEqual(caught.exception.number, number)


class RowsTest(unittest.TestCase):

    def test_without_a_name(self):
        dice = Dice(202)
        for _ in range(40):
            telling = dice.telling()
            for name in "abcz":
                wanted = tuple(row for row in telling if name not in dict(row[1]) and name not in dict(row[2] or ()))
                self.assertTrue(same(rows_without(telling, name), wanted))
        self.assertEqual((rows_without(TELL, "lib"), rows_without(TELL, "app"), rows_without((), "a")), ((NEAR,), (), ()))
        self.assertEqual(rows_without(((0, (("a", (1,)),), None), (1, (), None)), "a"), ((1, (), None),))

    def test_days(self):
        dice = Dice(203)
        for _ in range(60):
            telling = dice.telling(("a", "b"), days=6)
            days = sorted({row[0] for row in telling})
            wanted = tuple((days.index(row[0]),) + row[1:] for row in telling)
            self.assertTrue(same(days_numbered(telling), wanted))
            turned = tuple((9 - row[0],) + row[1:] for row in telling)
            self.assertTrue(same(days_turned(telling, 9), turned))
            for shop in SHOPS:
                self.assertEqual(plain_has(wanted, shop), plain_has(telling, shop))
                if shop != "growing":
                    self.assertEqual(plain_has(turned, shop), plain_has(telling, shop))
        self.assertEqual((days_numbered(()), days_turned((), 0), days_numbered(((10 ** 6, (), ()),))), ((), (), ((0, (), ()),)))
        self.assertEqual([row[0] for row in days_numbered([(9, (), ()), (4, (), ()), (9, (), ()), (6, (), ())])], [2, 0, 2, 1])
        self.assertEqual(days_turned((LATE,), 3)[0][0], 0)
        for telling, day in (((LATE,), 2), (TELL + (LATE,), 0), ((LATE, NEAR), 1)):
            with self.assertRaises(Unfit):
                days_turned(telling, day)

    def test_names(self):
        dice, names = Dice(204), (("a", "core"), ("b", "dart"), ("c", "zoo"), ("q", "zz"))
        called = dict(names)
        for _ in range(60):
            telling = dice.telling()
            wanted = tuple((day, tuple((called[name], own) for name, own in wish),
                            None if answer is None else tuple((called[name], own) for name, own in answer))
                           for day, wish, answer in telling)
            self.assertTrue(same(names_changed(telling, names), wanted))
            for shop in SHOPS:
                self.assertEqual(plain_has(wanted, shop), plain_has(telling, shop))
        wished = ((0, (("lib", (1,)), ("app", (2,))), None),)
        self.assertEqual(names_changed(wished, (("app", "lib"), ("lib", "new"))), ((0, (("new", (1,)), ("lib", (2,))), None),))
        self.assertEqual((names_changed((), ()), names_changed(((0, (), ()),), ())), ((), ((0, (), ()),)))

    def test_names_that_are_not_fit(self):
        fine = (("app", "core"), ("lib", "util"))
        self.assertEqual(outcome(names_changed, TELL, fine)[0], "gave")
        for names in ((), fine[:1], fine[1:], (("app", "util"), ("lib", "core")), (("app", "core"), ("lib", "core")),
                      fine + (("zoo", "base"),), (("a", "zz"),) + fine):
            with self.assertRaises(Unfit):
                names_changed(TELL, names)
        # The new ones have to ascend even where no ROW has the NAME.
        self.assertEqual(outcome(names_changed, (), (("a", "z"), ("b", "y"))), ("raised", "Unfit", {}))

    def test_disputed(self):
        dice, seen = Dice(205), set()
        for _ in range(80):
            telling = dice.telling(("a",), most=2, rows=6, days=1, lies=0.5)
            for shop in SHOPS:
                wanted = tuple((k, j) for k, j in itertools.combinations(range(len(telling)), 2)
                               if telling[k][1] == telling[j][1] and telling[k][2] != telling[j][2]
                               and (shop == "still" or telling[k][0] == telling[j][0]))
                self.assertEqual(disputed(telling, shop), wanted)
                for k, j in wanted:
                    self.assertFalse(plain_has((telling[k], telling[j]), shop))
                seen.add((shop, min(2, len(wanted))))
        self.assertEqual(seen, set(itertools.product(SHOPS, (0, 1, 2))))
        # WISHES are unlike if their NAMES come in another order.
        two = ((0, (("a", (1,)), ("b", (1,))), None), (0, (("b", (1,)), ("a", (1,))), ()), (0, (("a", (1,)), ("b", (1,))), ()))
        self.assertEqual((disputed(two, "still"), disputed(two[1:], "still"), disputed((), "short")), (((0, 2),), (), ()))


class BetweenTest(JudgeCase):

    def test_beside_all_ways(self):
        dice, seen = Dice(206), set()
        short = [own for many in range(3) for own in itertools.product(ROWS, repeat=many)]
        for start in [()] + dice.rolls.sample(short, 5):
            # The search goes by way of TELLINGS that have a ROW more than start, too.
            found = all_distances(start, 3)
            for end in [start] + dice.rolls.sample(sorted(found, key=repr), 120):
                self.assertEqual(fewest_changes(start, end), found[end], (start, end))
                way = changes_between(start, end)
                self.assertEqual(len(way), found[end])
                self.assertTrue(all(change_ok(own) for own in way))
                self.assertEqual(all_changed(start, way), end)
                self.assertIs(is_changes_between(start, end, way), True)
                seen.add(found[end])
        self.assertTrue({0, 1, 2, 3, 4} <= seen, seen)

    def test_which_lead_there(self):
        for one, other in ((ROWS[:2], ROWS[1:2]), (ROWS[:1], (ROWS[3],)), ((), ROWS[:1]), (ROWS[:2], ROWS[1::-1]), (ROWS[:1], ROWS[:1])):
            many = fewest_changes(one, other)
            ways = self.all_ways(one, other, many)
            self.assertTrue(ways)
            for thing in itertools.product(list(all_steps(one)), repeat=many):
                self.assertIs(is_changes_between(one, other, thing), thing in ways, thing)

    def all_ways(self, one, other, many):
        if many == 0:
            return [()] if one == other else []
        return [(step,) + own for step in all_steps(one) for own in self.all_ways(plain_changed(one, step), other, many - 1)]

    def test_both_ways_and_by_way_of_a_third(self):
        dice = Dice(207)
        for _ in range(80):
            one, other, third = [tuple(dice.pick(ROWS) for _ in range(dice.rolls.randint(0, 5))) for _ in range(3)]
            many = fewest_changes(one, other)
            self.assertEqual(many, fewest_changes(other, one))
            self.assertLessEqual(many, fewest_changes(one, third) + fewest_changes(third, other))
            self.assertEqual(all_changed(one, changes_between(one, other)), other)

    def test_by_hand(self):
        moved = (7, NEAR[1], None)
        self.assertEqual([fewest_changes((NEAR,), own) for own in ((NEAR,), (moved,), (FAR,), (NEAR, NEAR), (FAR, NEAR, LATE))],
                         [0, 2, 2, 1, 2])
        self.assertEqual((fewest_changes((), ()), changes_between((), ()), changes_between(TELL, TELL)), (0, (), ()))
        self.assertEqual(changes_between((), TELL), (("told", 0, NEAR), ("told", 1, FAR)))
        self.assertEqual(changes_between((NEAR,) * 12, (NEAR,) * 11 + (moved[:2] + NEAR[2:],)), (("shift", 11, 7),))
        self.assertEqual(fewest_changes((NEAR,) * 12, (LATE,) * 12), 24)
        # ROWS may be like others of the same WISH further on.
        self.assertEqual(fewest_changes((NEAR, FAR, LATE), (FAR, LATE, NEAR)), 2)

    def test_ways_with_one_flaw(self):
        given = (TELL, (FAR, LATE))
        fine = (("back", 0), ("told", 1, LATE))
        self.assertIs(is_changes_between(*given, fine), True)
        self.assertIs(is_changes_between(*given, (("told", 2, LATE), ("back", 0))), True)
        for flawed in (list(fine), fine[:1], fine + (("shift", 0, 0),), fine[::-1], (("back", 0), ["told", 1, LATE]), None, (),
                       (("back", False), fine[1]), (("back", 0), ("told", True, LATE)), (("back", 0), ("told", 2, LATE)),
                       (("back", 9), ("told", 1, LATE)), (("back", -2), ("told", 1, LATE)), (("back", 0), ("told", 1, NEAR)),
                       (("drop", 0), fine[1]), (("back", 0), ("told", 1, LATE[:2]))):
            self.assertIs(is_changes_between(*given, flawed), False, flawed)

        def wanted(thing):
            if type(thing) is not tuple or len(thing) != 2 or not all(change_ok(own) for own in thing):
                return False
            behind = plain_changed(TELL, thing[0])
            return behind is not None and plain_changed(behind, thing[1]) == (FAR, LATE)

        self.check(lambda thing: is_changes_between(*given, thing), wanted, [fine, (("told", 2, LATE), ("back", 0))])


if __name__ == "__main__":
    unittest.main()
