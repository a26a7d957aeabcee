"""[12]: told.py, beside a slow search of all SHELVES of a small universe, and plain reckonings."""

import itertools
import unittest

import histories
from helper import (SHOPS, Dice, against_ok, locks_over, outcome, plain_beats, plain_has, plain_locks, plain_names,
                    plain_stands, plain_tight, told_versions)
from histories import RELEASES, all_histories, all_shelves, history_tells, made_up_telling, shelf_tells
from lockstold.errors import CanNot, Unfit
from lockstold.told import (against, first_clash, has_shelf, is_against, is_tight_shelf, is_why_not_let, may_forbid, may_let,
                            must_have, must_let, shops_for, tight_shelf, why_not_let)

ANY_APP, ANY_LIB = (("app", (1, 2)),), (("lib", (1, 2)),)
TIMES = ((1, ANY_LIB, (("lib", 1),)), (2, ANY_LIB, (("lib", 2),)), (3, ANY_LIB, (("lib", 1),)))
SHOWN = ((0, ANY_APP, (("app", 2), ("lib", 1))), (0, ANY_LIB, (("lib", 2),)),
         (0, (("app", (1,)), ("lib", (1, 2))), (("app", 1), ("lib", 2))))
NO_SHELF = ((0, ANY_APP, (("lib", 1),)),)
LONG = "abcdefghijkl"


def small(many, seed, days=(0, 1, 2)):
    """Pairs of a SHOP and a TELLING of the universe."""
    dice = Dice(seed)
    for _ in range(many):
        shop = dice.pick(SHOPS)
        yield shop, made_up_telling(dice, shop, dice.pick((1, 2, 3, 4)), dice.pick((0, 0.2)), days)


def wide(many, seed, lies=0.2):
    """Pairs of a SHOP and a TELLING of three NAMES."""
    dice = Dice(seed)
    for _ in range(many):
        shop = dice.pick(SHOPS)
        yield shop, dice.telling(rows=5, lies=lies, shop=dice.pick((shop, shop, None)))


class HasShelfTest(unittest.TestCase):

    def test_beside_all_shelves(self):
        seen = set()
        for _, telling in small(250, 51):
            for shop in SHOPS:
                wanted = any(history_tells(own, telling) for own, _ in all_histories(shop))
                self.assertIs(has_shelf(telling, shop), wanted, (telling, shop))
                seen.add((shop, wanted))
        self.assertEqual(len(seen), 6)

    def test_beside_all_againsts(self):
        seen = set()
        for shop, telling in wide(250, 52):
            wanted = plain_has(telling, shop)
            self.assertIs(has_shelf(telling, shop), wanted, (telling, shop))
            self.assertEqual(shops_for(telling), tuple(own for own in SHOPS if plain_has(telling, own)))
            seen.add((shop, wanted))
        self.assertEqual(len(seen), 6)

    def test_a_shelf_or_an_against_never_both(self):
        for shop, telling in list(wide(150, 53)) + list(small(100, 54)):
            if has_shelf(telling, shop):
                self.assertEqual(outcome(against, telling, shop), ("raised", "CanNot", {}))
                shelf = tight_shelf(telling, shop)
                self.assertEqual(shelf, plain_tight(telling, shop))
                self.assertIs(is_tight_shelf(telling, shop, shelf), True)
            else:
                found = against(telling, shop)
                self.assertTrue(against_ok(telling, shop, found), found)
                self.assertIs(is_against(telling, shop, found), True)
                self.assertEqual(outcome(tight_shelf, telling, shop), ("raised", "CanNot", {}))
                self.assertIs(is_tight_shelf(telling, shop, plain_tight(telling, shop)), False)

    def test_the_first_clash(self):
        seen = set()
        for shop, telling in wide(120, 55, 0.4):
            ends = [at for at in range(len(telling)) if not plain_has(telling[:at + 1], shop)]
            self.assertEqual(first_clash(telling, shop), ends[0] if ends else None)
            seen.add(ends[0] if ends else None)
        self.assertTrue({None, 0, 1, 2} <= seen)

    def test_of_no_rows(self):
        self.assertEqual(shops_for(()), SHOPS)
        for shop in SHOPS:
            self.assertEqual((tight_shelf((), shop), must_have((), shop), first_clash((), shop)), ((), (), None))
            self.assertIs(is_tight_shelf((), shop, ()), True)
            self.assertIs(is_against((), shop, ("unmet", 0)), False)

    def test_rows_that_no_shelf_tells_alone(self):
        for row, paper in (((4, ANY_APP, ()), ("unmet", 0)), ((0, (), (("app", 1),)), ("better", 0, (), ())),
                           ((0, (), None), ("better", 0, (), ()))):
            for shop in SHOPS:
                self.assertEqual((has_shelf((row,), shop), against((row,), shop), first_clash((row,), shop)),
                                 (False, paper, 0))
        self.assertEqual(shops_for(((0, ANY_APP, None), (0, (), ()))), SHOPS)

    def test_full_bounds(self):
        lock = tuple((name, 10 ** 6) for name in sorted(("a", "b", "c", "d", LONG)))
        wish = ((LONG, (1, 10 ** 6)), ("b", (10 ** 6,)), ("a", (3, 10 ** 6)))
        telling = ((10 ** 6, wish, lock), (0, (), ())) * 6
        self.assertEqual(shops_for(telling), SHOPS)
        rules = tuple((name, (10 ** 6,)) for name in ("a", LONG, "b", "c", "d"))
        self.assertEqual(tight_shelf(telling, "short")[0], (("a", 10 ** 6), rules[1:], 10 ** 6, 10 ** 6))
        self.assertEqual(must_let(telling, "still", (LONG, 10 ** 6)), rules[:1] + rules[2:])


class AgainstTest(unittest.TestCase):

    def test_all_againsts_and_no_others(self):
        seen = set()
        for shop, telling in list(wide(25, 56, 0.6)):
            telling = telling[:3]
            rows = [own for many in range(len(telling) + 1) for own in itertools.combinations(range(len(telling)), many)]
            for at in range(-1, len(telling) + 1):
                things = [("unmet", at)] + [("better", at, lock, own) for own in rows
                                            for lock in locks_over(told_versions(telling)) + [(("new", 1),)]]
                for thing in things:
                    found = is_against(telling, shop, thing)
                    self.assertIs(found, against_ok(telling, shop, thing), (telling, shop, thing))
                    seen.add((found, thing[0]))
        self.assertEqual(len(seen), 4)

    def test_its_rows_have_no_shelf(self):
        for shop, telling in wide(120, 57, 0.5):
            if not has_shelf(telling, shop):
                found = against(telling, shop)
                rows = sorted({found[1]} | set(found[3] if found[0] == "better" else ()))
                self.assertIs(plain_has([telling[at] for at in rows], shop), False)

    def test_one_flaw_each(self):
        fine = ("better", 0, (("lib", 2),), (1,))
        self.assertIs(is_against(TIMES, "still", fine), True)
        for flawed in (list(fine), fine[:3], fine + ((),), ("unmet",) + fine[1:], ("unmet", 0), ("better", 0),
                       ("better", 1) + fine[2:], ("better", 3) + fine[2:], ("better", -1) + fine[2:],
                       ("better", False) + fine[2:], fine[:2] + ((("lib", 1),), (1,)), fine[:2] + ((), ()),
                       fine[:2] + ([("lib", 2)], (1,)), fine[:2] + ((("lib", 3),), (1,)), fine[:3] + ([1],),
                       fine[:3] + ((0,),), fine[:3] + ((),), fine[:3] + ((1, 1),), fine[:3] + ((1, 0),),
                       fine[:3] + ((1, 3),), fine[:3] + ((True,),), fine[:3] + (1,), (), None, "better"):
            self.assertIs(is_against(TIMES, "still", flawed), False, flawed)
        self.assertIs(is_against(TIMES, "growing", fine), False)
        self.assertIs(is_against(TIMES, "growing", ("better", 2, (("lib", 2),), (1,))), True)
        self.assertIs(is_against(TIMES, "short", ("better", 2, (("lib", 2),), (1,))), False)
        self.assertIs(is_against(NO_SHELF, "still", ("unmet", 0)), True)
        for flawed in (["unmet", 0], ("unmet",), ("unmet", 1), ("unmet", False), ("unmet", 0, ()), ("unmet", -1)):
            self.assertIs(is_against(NO_SHELF, "still", flawed), False, flawed)

    def test_the_answer_none_is_not_unmet(self):
        telling = ((0, ANY_APP, None), (3, ANY_APP, (("app", 1),)))
        self.assertIs(is_against(telling, "still", ("unmet", 0)), False)
        self.assertIs(is_against(telling, "still", ("better", 0, (("app", 1),), (1,))), True)
        self.assertEqual(shops_for(telling), ("growing", "short"))


class MustTest(unittest.TestCase):

    def test_beside_all_shelves_that_tell(self):
        many = 0
        for shop, telling in small(60, 58):
            if not has_shelf(telling, shop):
                continue
            tellers = [own for own in all_shelves(shop) if shelf_tells(own, telling)]
            many += len(tellers)
            must = {own[0]: own[1:] for own in must_have(telling, shop)}
            self.assertEqual(list(must), sorted(must))
            for release in RELEASES:
                for day in (0, 1, 2):
                    each = all(histories.has_on(own, release, day) for own in tellers)
                    first, last = must.get(release, (9, None))
                    self.assertEqual(each, first <= day and (last is None or day <= last))
                self.check_let(telling, shop, release, tellers, release in must)
        self.assertGreater(many, 1000)

    def check_let(self, telling, shop, release, tellers, told):
        if not told:
            self.assertEqual(outcome(must_let, telling, shop, release), ("raised", "CanNot", {}))
            return
        rules = dict(must_let(telling, shop, release))
        self.assertEqual(set(rules), set(plain_names(telling)) - {release[0]})
        for name, lot in rules.items():
            lots = [dict(dict((own[0], own[1]) for own in shelf)[release])[name] for shelf in tellers]
            self.assertEqual(set(lot), set.intersection(*map(set, lots)))

    def test_the_tight_shelf(self):
        for shop, telling in wide(80, 59, 0.1):
            if has_shelf(telling, shop):
                shelf = plain_tight(telling, shop)
                self.assertEqual(must_have(telling, shop), tuple((own[0],) + own[2:] for own in shelf))
                for release, rules, _, _ in shelf:
                    self.assertEqual(must_let(telling, shop, release), rules)

    def test_tight_shelves_with_one_flaw(self):
        shelf = tight_shelf(SHOWN, "still")
        self.assertIs(is_tight_shelf(SHOWN, "still", shelf), True)
        for flawed in (list(shelf), shelf[1:], shelf[::-1], shelf + shelf[-1:], (shelf[0][:2] + (0, 5),) + shelf[1:],
                       (shelf[0][:2] + (1, None),) + shelf[1:], (shelf[0][:2] + (False, None),) + shelf[1:],
                       ((shelf[0][0], ()) + shelf[0][2:],) + shelf[1:], (shelf[0][:3],) + shelf[1:],
                       ((("app", True),) + shelf[0][1:],) + shelf[1:], (list(shelf[0]),) + shelf[1:],
                       ((shelf[0][0], (("lib", (1, 2)),), 0, None),) + shelf[1:], (), None):
            self.assertIs(is_tight_shelf(SHOWN, "still", flawed), False, flawed)
        self.assertIs(is_tight_shelf(SHOWN, "growing", shelf), True)
        self.assertIs(is_tight_shelf(SHOWN, "short", shelf), False)
        self.assertIs(is_tight_shelf(SHOWN, "short", tuple(own[:3] + (0,) for own in shelf)), True)


class MayTest(unittest.TestCase):

    def test_beside_all_shelves_that_tell(self):
        seen = set()
        for shop, telling in small(36, 60, (0, 1)):
            if not has_shelf(telling, shop):
                continue
            tellers = [own for own in all_shelves(shop, (0, 1), True) if shelf_tells(own, telling)]
            for pair in histories.pairs_over():
                lots = [dict((own[0], own[1]) for own in shelf).get(pair[0]) for shelf in tellers]
                lets = {histories.lets(rules, pair[1], pair[2]) for rules in lots if rules is not None}
                self.assertIs(may_let(telling, shop, *pair), True in lets, (telling, shop, pair))
                self.assertIs(may_forbid(telling, shop, *pair), False in lets, (telling, shop, pair))
                seen.add((True in lets, False in lets))
        self.assertEqual(seen, {(True, True), (True, False), (False, True)})

    def test_a_state_may_be_forbidden_if_no_told_lock_has_the_pair(self):
        for shop, telling in wide(60, 61, 0.1):
            if has_shelf(telling, shop):
                for pair in self.pairs(telling):
                    had = any(histories.has_pair(row[2], pair) for row in telling)
                    self.assertIs(may_forbid(telling, shop, *pair), not had)

    def pairs(self, telling):
        releases = sorted({own for lock in plain_locks(telling) for own in lock}) + [("a", 7), ("z", 1)]
        for release, name, state in itertools.product(releases, ("a", "b", "c", "z", "new"), (0, 1, 2, 9)):
            if name != release[0]:
                yield release, name, state

    def test_why_not(self):
        many = 0
        for shop, telling in list(wide(30, 62, 0.1)) + list(self.narrow(60, 63)):
            if not has_shelf(telling, shop):
                continue
            for pair in self.pairs(telling):
                fit = self.why_not(telling, shop, pair)
                self.assertIs(may_let(telling, shop, *pair), not fit, (telling, shop, pair))
                if not fit:
                    self.assertEqual(outcome(why_not_let, telling, shop, *pair), ("raised", "CanNot", {}))
                    continue
                many += 1
                self.assertIn(why_not_let(telling, shop, *pair), fit)
                for at in range(-1, len(telling) + 1):
                    for lock in locks_over(told_versions(telling)) + [(("z", 1),)]:
                        wanted = (at, lock) in fit
                        self.assertIs(is_why_not_let(telling, shop, *pair, (at, lock)), wanted)
        self.assertGreater(many, 20)

    def narrow(self, many, seed):
        """TELLINGS of two NAMES: of more ROWS, so that less may be let."""
        dice = Dice(seed)
        for _ in range(many):
            shop = dice.pick(SHOPS)
            yield shop, dice.telling(("a", "b"), rows=8, lies=0, shop=shop)

    def why_not(self, telling, shop, pair):
        """All pairs (row, lock) that show that the PAIR may not be let, by the words of [12]."""
        shelf = []
        for release, rules, first, last in plain_tight(telling, shop):
            more = [(name, tuple(sorted(set(lot) | ({pair[2]} if (release, name) == pair[:2] else set()))))
                    for name, lot in rules]
            shelf.append((release, tuple(more), first, last))
        return [(at, lock) for at, row in enumerate(telling) for lock in locks_over(told_versions(telling))
                if histories.has_pair(lock, pair) and plain_beats(lock, row) and plain_stands(shelf, row[0], lock)]

    def test_of_what_is_not_told(self):
        for release, name, state in ((("app", 7), "lib", 0), (("new", 1), "app", 0), (("new", 1), "lib", 2),
                                     (("app", 2), "new", 1), (("app", 2), "lib", 3), ((LONG, 10 ** 6), "z", 10 ** 6)):
            self.assertEqual((may_let(SHOWN, "still", release, name, state), may_forbid(SHOWN, "still", release, name, state)),
                             (True, True))
            self.assertIs(is_why_not_let(SHOWN, "still", release, name, state, (0, ())), False)
            self.assertEqual(outcome(why_not_let, SHOWN, "still", release, name, state), ("raised", "CanNot", {}))
        # That an untold NAME is away is told with each LOCK.
        self.assertEqual((may_let(SHOWN, "still", ("app", 2), "new", 0), may_forbid(SHOWN, "still", ("app", 2), "new", 0)),
                         (True, False))
        self.assertIs(is_why_not_let(SHOWN, "still", ("new", 1), "lib", 1, (1, (("lib", 1), ("new", 1)))), False)

    def test_why_not_with_one_flaw(self):
        given = (SHOWN, "still", ("app", 2), "lib", 0)
        fine = (0, (("app", 2),))
        self.assertIs(is_why_not_let(*given, fine), True)
        for flawed in (list(fine), fine[:1], fine + (1,), (1, fine[1]), (3, fine[1]), (-1, fine[1]), (False, fine[1]),
                       (0, list(fine[1])), (0, (("app", 2), ("lib", 1))), (0, (("app", 1),)), (0, ()), (0, None),
                       (0, (("app", True),)), (0, (("app", 2), ("new", 1))), (), None):
            self.assertIs(is_why_not_let(*given, flawed), False, flawed)


class ErrorsTest(unittest.TestCase):

    def raises(self, kind, function, *given):
        with self.assertRaises(kind, msg=(function.__name__, given)):
            function(*given)

    def calls(self, telling, shop):
        pair = (("app", 2), "lib", 0)
        return [(has_shelf, (telling, shop)), (tight_shelf, (telling, shop)), (is_tight_shelf, (telling, shop, ())),
                (against, (telling, shop)), (is_against, (telling, shop, None)), (first_clash, (telling, shop)),
                (must_have, (telling, shop)), (must_let, (telling, shop, pair[0])), (may_forbid, (telling, shop) + pair),
                (may_let, (telling, shop) + pair), (why_not_let, (telling, shop) + pair),
                (is_why_not_let, (telling, shop) + pair + (None,))]

    def test_unfit_tellings_and_shops(self):
        row = SHOWN[0]
        for telling in (None, 3, "row", row, ((0, (), ()), None), (row[:2],), ((-1,) + row[1:],), ((True,) + row[1:],),
                        (row[:2] + (row[2][::-1],),), ((0, (("a", ()),), None),)):
            for function, given in self.calls(telling, "still"):
                self.raises(Unfit, function, *given)
            self.raises(Unfit, shops_for, telling)
        for shop in ("", "Still", "grown", None, 1, (), ("still",), ["short"]):
            for function, given in self.calls(SHOWN, shop) + self.calls((), shop):
                self.raises(Unfit, function, *given)

    def test_unfit_pairs(self):
        for release, name, state in ((("app", 0), "lib", 0), ("app", "lib", 0), (("app", 2, 1), "lib", 0), (None, "lib", 0),
                                     (("app", True), "lib", 0), (("app", 2), "app", 0), (("app", 2), "LIB", 0),
                                     (("app", 2), None, 0), (("app", 2), "", 0), (("app", 2), "lib", -1),
                                     (("app", 2), "lib", True), (("app", 2), "lib", None), (("app", 2), "lib", "0")):
            # Ahead of all, so ahead of CanNot too.
            for telling in (SHOWN, NO_SHELF, ()):
                for function in (may_forbid, may_let, why_not_let):
                    self.raises(Unfit, function, telling, "still", release, name, state)
                self.raises(Unfit, is_why_not_let, telling, "still", release, name, state, (0, ()))
        for release in (("app", 0), ["app"], None, "app", (1, "app")):
            self.raises(Unfit, must_let, NO_SHELF, "still", release)

    def test_no_shelf(self):
        for telling, shop in ((NO_SHELF, "still"), (NO_SHELF, "short"), (TIMES, "growing")):
            for function, given in self.calls(telling, shop):
                if function in (tight_shelf, must_have, must_let, may_forbid, may_let, why_not_let, is_why_not_let):
                    self.raises(CanNot, function, *given)
                elif function is not against:
                    function(*given)
        self.raises(CanNot, must_let, TIMES, "short", ("lib", 3))
        self.raises(CanNot, must_let, (), "short", ("lib", 3))
        self.raises(CanNot, against, TIMES, "short")
        self.raises(CanNot, why_not_let, (), "still", ("app", 1), "lib", 0)


if __name__ == "__main__":
    unittest.main()
