"""[7]: shelves.py, beside plain reckonings over made-up SHELVES, all their LOCKS and all DAYS that matter."""

import itertools
import unittest

from helper import (Dice, days_that_matter, locks_over, outcome, plain_standing, plain_stands, plain_state, plain_there,
                    release_ok, rules_ok, shelf_ok, versions_of)
from lockstold.errors import Unfit
from lockstold.shelves import (days_of, forbidden, is_shelf, is_within, let_more, meet_of, on_shelf, published,
                               renamed_shelf, rules_of, shop_of, turning_days, unlike_releases, withdrawn)

EMPTY = ()
APP = ((("app", 1), (("lib", (1, 2)),), 0, None), (("lib", 1), (), 2, 5), (("lib", 3), (), 4, 4))
NEVER = 10 ** 12


def made_up(many, seed=7, **more):
    dice = Dice(seed)
    return [EMPTY] + [dice.shelf(("a", "b"), **more) for _ in range(many)]


def entries(shelf):
    return {own[0]: own for own in shelf}


def end_of(last):
    return NEVER if last is None else last


class ShelvesTest(unittest.TestCase):

    def test_what_is_a_shelf(self):
        for shelf in made_up(40) + [APP, ((("abcdefghijkl", 10 ** 6), (), 10 ** 6, 10 ** 6),)]:
            self.assertIs(is_shelf(shelf), True)
            if len(shelf) > 1:
                self.assertIs(is_shelf(shelf[::-1]), False)
                self.assertIs(is_shelf(shelf + shelf[-1:]), False)
            self.assertIs(is_shelf(list(shelf)), False)
        for own in ((("a", 0), (), 0, None), (("a", 1), (("a", (1,)),), 0, None), (("a", 1), (), -1, None),
                    (("a", 1), (), 3, 2), (("a", 1), (), None, None), (("a", 1), (), 0, True), (("a", 1), (), False, 1),
                    (("a", 1), (), 0), (("a", 1), (), 0, None, 0), (("a", 1), [], 0, None), [("a", 1), (), 0, None]):
            self.assertIs(is_shelf((own,)), False)

    def test_shops(self):
        for shelf in made_up(200):
            still = all(own[2] == 0 and own[3] is None for own in shelf)
            growing = all(own[3] is None for own in shelf)
            self.assertEqual(shop_of(shelf), "still" if still else "growing" if growing else "short")
        late = (("a", 1), (), 1, None)
        self.assertEqual([shop_of(()), shop_of((late,)), shop_of(APP), shop_of(APP[:1])],
                         ["still", "growing", "short", "still"])
        self.assertEqual(shop_of(((("a", 1), (), 0, 10 ** 6),)), "short")

    def test_who_is_there_and_when(self):
        for shelf in made_up(60):
            for day in days_that_matter(shelf):
                self.assertEqual(on_shelf(shelf, day), tuple(sorted(plain_there(shelf, day))))
            for release, rules, first, last in shelf:
                self.assertEqual(rules_of(shelf, release), rules)
                self.assertEqual(days_of(shelf, release), (first, last))

    def test_first_and_last_day_and_those_beside(self):
        own = ((("a", 1), (), 3, 5),)
        self.assertEqual([on_shelf(own, day) for day in range(8)], [(), (), (), (("a", 1),)] + [(("a", 1),)] * 2 + [()] * 2)
        self.assertEqual(on_shelf(((("a", 1), (), 0, None),), 10 ** 30), (("a", 1),))

    def test_turning_days(self):
        for shelf in made_up(60):
            wanted = {own[2] for own in shelf} | {own[3] + 1 for own in shelf if own[3] is not None}
            self.assertEqual(turning_days(shelf), tuple(sorted(wanted)))
        self.assertEqual(turning_days(()), ())
        self.assertEqual(turning_days(((("a", 1), (), 4, None),)), (4,))

    def test_between_turning_days_the_same_stands(self):
        for shelf in made_up(40):
            for day in range(1, 12):
                if day not in turning_days(shelf):
                    self.assertEqual(plain_standing(shelf, day), plain_standing(shelf, day - 1))


class ChangedShelvesTest(unittest.TestCase):

    def test_published(self):
        for shelf in made_up(30):
            for release in (("a", 7), ("aa", 10 ** 6), ("z", 1)):
                for rules in ((), (("b", (0, 1)),), (("abcdefghijkl", (0,)), ("b", (10 ** 6,)))):
                    found = published(shelf, release, rules, 4)
                    self.assertTrue(shelf_ok(found))
                    self.assertEqual(entries(found), {**entries(shelf), release: (release, rules, 4, None)})
            for own in shelf:
                self.assertEqual(outcome(published, shelf, own[0], (), 0), ("raised", "Unfit", {}))

    def test_withdrawn(self):
        for shelf in made_up(40):
            for release, rules, first, last in shelf:
                for day in days_that_matter(shelf):
                    if release in plain_there(shelf, day):
                        found = withdrawn(shelf, release, day)
                        self.assertEqual(entries(found), {**entries(shelf), release: (release, rules, first, day)})
                        self.assertTrue(shelf_ok(found))
                    else:
                        self.assertEqual(outcome(withdrawn, shelf, release, day), ("raised", "Unfit", {}))

    def test_let_more(self):
        for shelf in made_up(30):
            for release, rules, first, last in shelf:
                for name, state in itertools.product({"a", "b", "z", "new"} - {release[0]}, (0, 1, 2, 10 ** 6)):
                    lots = dict(rules)
                    if name in lots:
                        lots[name] = tuple(sorted(set(lots[name]) | {state}))
                    wanted = (release, tuple(sorted(lots.items())), first, last)
                    self.assertEqual(entries(let_more(shelf, release, name, state)), {**entries(shelf), release: wanted})

    def test_forbidden(self):
        for shelf in made_up(30):
            for release, rules, first, last in shelf:
                for name, state in itertools.product({"a", "b", "z", "new"} - {release[0]}, (0, 1, 2, 10 ** 6)):
                    self.check_forbidden(shelf, release, name, state)

    def check_forbidden(self, shelf, release, name, state):
        own = entries(shelf)[release]
        every = {0} | {version for other, version in entries(shelf) if other == name}
        left = tuple(sorted(set(dict(own[1]).get(name, every)) - {state}))
        if not left:
            self.assertEqual(outcome(forbidden, shelf, release, name, state), ("raised", "Unfit", {}))
            return
        found = forbidden(shelf, release, name, state)
        rules = tuple(sorted({**dict(own[1]), name: left}.items()))
        self.assertEqual(entries(found), {**entries(shelf), release: (release, rules) + own[2:]})
        for day in days_that_matter(shelf)[:6]:
            for lock in locks_over(versions_of(shelf)):
                has = release in lock and plain_state(lock, name) == state
                self.assertEqual(plain_stands(found, day, lock), plain_stands(shelf, day, lock) and not has)

    def test_a_lot_of_which_nothing_is_left(self):
        one = ((("a", 1), (("b", (2,)),), 0, None), (("b", 2), (), 0, None))
        self.assertEqual(outcome(forbidden, one, ("a", 1), "b", 2), ("raised", "Unfit", {}))
        self.assertEqual(outcome(forbidden, one, ("a", 1), "z", 0), ("raised", "Unfit", {}))
        self.assertEqual(rules_of(forbidden(one, ("a", 1), "z", 3), ("a", 1)), (("b", (2,)), ("z", (0,))))
        self.assertEqual(rules_of(forbidden(one, ("b", 2), "a", 0), ("b", 2)), (("a", (1,)),))


class UnfitTest(unittest.TestCase):

    def unfit(self, function, *given):
        with self.assertRaises(Unfit, msg=(function.__name__, given)):
            function(*given)

    def test_releases(self):
        for release in (("app", 2), ("zoo", 1), ("app", 0), ("app", True), ("app",), "app", 1, None, ()):
            for function, more in ((rules_of, ()), (days_of, ()), (withdrawn, (0,)), (let_more, ("lib", 1)),
                                   (forbidden, ("lib", 1))):
                self.unfit(function, APP, release, *more)

    def test_releases_that_are_published(self):
        for release in (("app", 1), ["app", 1], ("lib", 3), ("new", 0), ("new", True), ("NEW", 1), ("new",), "new", None):
            self.unfit(published, APP, release, (), 0)

    def test_rules(self):
        for rules in ((("new", (1,)),), (("a", (0,)), ("new", (0,))), (("b", (0,)), ("a", (0,))), (("a", ()),), (("a", (-1,)),),
                      (("a", 1),), None, "a", 0):
            self.unfit(published, APP, ("new", 1), rules, 0)

    def test_names(self):
        for name in ("app", "", "A", "lib1", "abcdefghijklm", 1, None, ("lib",)):
            self.unfit(let_more, APP, ("app", 1), name, 1)
            self.unfit(forbidden, APP, ("app", 1), name, 1)

    def test_shelves(self):
        other = APP[::-1]
        for function, more in ((shop_of, ()), (on_shelf, (0,)), (turning_days, ()), (rules_of, (("app", 1),)),
                               (days_of, (("app", 1),)), (published, (("new", 1), (), 0)), (withdrawn, (("app", 1), 0)),
                               (let_more, (("app", 1), "lib", 1)), (forbidden, (("app", 1), "lib", 1)),
                               (meet_of, (APP,)), (is_within, (APP,)), (unlike_releases, (APP,)), (renamed_shelf, ((),))):
            self.unfit(function, other, *more)
        for function in (meet_of, is_within, unlike_releases):
            self.unfit(function, APP, other)

    def test_ahead_of_what_is_raised_behind(self):
        self.unfit(withdrawn, APP, ("zoo", 1), 10)
        self.unfit(withdrawn, APP, ("lib", 1), 6)
        self.unfit(withdrawn, APP, ("lib", 1), 1)
        self.unfit(forbidden, APP, ("app", 1), "app", 0)


class TwoShelvesTest(unittest.TestCase):

    def pairs(self):
        dice = Dice(8)
        for _ in range(120):
            one = dice.shelf(("a", "b"))
            other = dice.shelf(("a", "b")) if dice.pick((0, 1)) else self.narrower(dice, one)
            yield one, other
        yield (), ()
        yield APP, ()
        yield (), APP

    def narrower(self, dice, shelf):
        """shelf with some of its RELEASES, fewer DAYS and less let."""
        found = []
        for at in dice.some(range(len(shelf))):
            release, rules, first, last = shelf[at]
            rules = tuple((name, dice.some(lot, 1)) for name, lot in rules)
            found.append((release, rules, first + dice.pick((0, 0, 1)) if last is None else first, last))
        return tuple(found)

    def test_met(self):
        for one, other in self.pairs():
            found = meet_of(one, other)
            self.assertTrue(shelf_ok(found))
            self.assertEqual(entries(found), self.plain_meet(one, other))
            self.assertIs(is_within(found, one) and is_within(found, other), True)
            for day in days_that_matter(one, other):
                for lock in locks_over(versions_of(one, other)):
                    self.assertEqual(plain_stands(found, day, lock),
                                     plain_stands(one, day, lock) and plain_stands(other, day, lock))

    def plain_meet(self, one, other):
        found = {}
        for release in set(entries(one)) & set(entries(other)):
            (_, rules, first, last), (_, more, since, until) = entries(one)[release], entries(other)[release]
            lots = {}
            for name in set(dict(rules)) | set(dict(more)):
                both = [dict(own)[name] for own in (rules, more) if name in dict(own)]
                lots[name] = tuple(state for state in both[0] if state in both[-1])
            start, end = max(first, since), min(end_of(last), end_of(until))
            if start <= end and all(lots.values()):
                found[release] = (release, tuple(sorted(lots.items())), start, None if end == NEVER else end)
        return found

    def test_within(self):
        seen = set()
        for one, other in self.pairs():
            found = is_within(one, other)
            self.assertIs(found, self.plain_within(one, other))
            self.assertIs(is_within(other, one), self.plain_within(other, one))
            self.assertIs(is_within(one, one), True)
            if found:
                for day in days_that_matter(one, other):
                    self.assertTrue(set(plain_standing(one, day)) <= set(plain_standing(other, day)))
            seen.add(found)
        self.assertEqual(seen, {True, False})

    def plain_within(self, one, other):
        far = entries(other)
        for release, rules, first, last in one:
            if release not in far or far[release][2] > first or end_of(far[release][3]) < end_of(last):
                return False
            for name, lot in far[release][1]:
                # 99 and 98 stand for all STATES that neither LOT has.
                own = dict(rules).get(name, tuple(range(4)) + (98, 99))
                if not set(own) <= set(lot):
                    return False
        return True

    def test_rules_that_lack_a_name_let_each_state_of_it(self):
        bound, free = ((("a", 1), (("b", (0, 1, 2)),), 0, None),), ((("a", 1), (), 0, None),)
        self.assertEqual((is_within(bound, free), is_within(free, bound)), (True, False))
        self.assertEqual((meet_of(bound, free), meet_of(free, bound)), (bound, bound))

    def test_within_both_is_within_the_meet(self):
        dice = Dice(9)
        for one, other in self.pairs():
            third = self.narrower(dice, meet_of(one, other))
            self.assertEqual(is_within(third, one) and is_within(third, other), is_within(third, meet_of(one, other)))

    def test_days_of_the_meet(self):
        def own(first, last):
            return ((("a", 1), (), first, last),)
        for days, more, wanted in (((0, 4), (4, None), (4, 4)), ((0, None), (3, None), (3, None)), ((2, 9), (0, 5), (2, 5))):
            self.assertEqual(meet_of(own(*days), own(*more)), own(*wanted))
            self.assertEqual(meet_of(own(*more), own(*days)), own(*wanted))
        self.assertEqual(meet_of(own(0, 3), own(4, None)), ())

    def test_unlike(self):
        for one, other in self.pairs():
            far, own = entries(other), entries(one)
            wanted = {release for release in set(own) | set(far) if own.get(release) != far.get(release)}
            self.assertEqual(unlike_releases(one, other), tuple(sorted(wanted)))
            self.assertEqual(unlike_releases(other, one), tuple(sorted(wanted)))
            self.assertTrue(all(release_ok(release) for release in wanted))


class RenamedTest(unittest.TestCase):

    def test_over_all_small_renamings(self):
        dice, raised = Dice(10), 0
        for shelf in made_up(25):
            for firsts in ((), ("a",), ("b",), ("z",), ("a", "b"), ("a", "z"), ("a", "b", "z")):
                for seconds in itertools.product(("a", "b", "z", "y"), repeat=len(firsts)):
                    raised += self.check(shelf, tuple(zip(firsts, seconds)))
        self.assertGreater(raised, 50)

    def check(self, shelf, names):
        called = {name: name for own in shelf for name in [own[0][0]] + [pair[0] for pair in own[1]]}
        called.update({name: new for name, new in names if name in called})
        if len(set(called.values())) < len(called):
            self.assertEqual(outcome(renamed_shelf, shelf, names), ("raised", "Unfit", {}))
            return True
        found = renamed_shelf(shelf, names)
        self.assertTrue(shelf_ok(found))
        wanted = {}
        for (name, version), rules, first, last in shelf:
            own = (called[name], version)
            wanted[own] = (own, tuple(sorted((called[other], lot) for other, lot in rules)), first, last)
        self.assertEqual(entries(found), wanted)
        self.assertTrue(all(rules_ok(own[1]) for own in found))
        return False

    def test_a_name_that_stands_in_rules_alone(self):
        own = ((("app", 1), (("lib", (1,)),), 0, None),)
        self.assertEqual(renamed_shelf(own, (("lib", "zoo"),)), ((("app", 1), (("zoo", (1,)),), 0, None),))
        self.assertEqual(outcome(renamed_shelf, own, (("lib", "app"),)), ("raised", "Unfit", {}))
        self.assertEqual(outcome(renamed_shelf, own, (("app", "lib"),)), ("raised", "Unfit", {}))
        self.assertEqual(renamed_shelf(own, (("app", "lib"), ("lib", "app"))), ((("lib", 1), (("app", (1,)),), 0, None),))
        self.assertEqual(renamed_shelf(own, (("new", "app"),)), own)


if __name__ == "__main__":
    unittest.main()
