"""[16]: liars.py, beside plain reckonings over all sets of ROWS."""

import itertools
import unittest

from helper import SHOPS, Dice, all_sets, least_of, outcome, plain_bad
from lockstold.errors import CanNot, NoRow, TooMany, Unfit
from lockstold.liars import (all_fewest_out, blamed, cheapest_out, fewest_out, hit_by, is_leaving, is_papers_apart, out_for,
                             papers_apart, suspects, trusted)
from papers import rest_of

PLAIN, FRESH = (("cup", 1), ("tea", 1)), (("cup", 2), ("tea", 1))
HEARD = ((0, (("tea", (1,)),), PLAIN), (1, (("tea", (1,)),), FRESH), (2, (("cup", (1, 2)),), (("cup", 1),)), (3, (), ()))
LYING = HEARD + ((4, (("tea", (1, 2)),), None), (5, (("cup", (3,)),), PLAIN))
LIE = LYING[5]


def made_up(many, seed, rows=5):
    dice = Dice(seed)
    yield "still", ()
    for _ in range(many):
        shop = dice.pick(SHOPS)
        names = dice.pick((("a", "b"), ("a", "b", "c")))
        yield shop, dice.telling(names, rows=rows, lies=0.6, shop=dice.pick((shop, None)))


def plain_leavings(telling, shop):
    bad = plain_bad(telling, shop)
    return [own for own in all_sets(len(telling)) if rest_of(own, len(telling)) not in bad]


def plain_fewest(telling, shop):
    found = plain_leavings(telling, shop)
    return sorted(own for own in found if len(own) == min(map(len, found)))


def most_apart(sets):
    """How many of sets there can be at most, no ROW in two, by going through all choices."""
    if not sets:
        return 0
    return max(most_apart(sets[1:]), 1 + most_apart([own for own in sets[1:] if not set(own) & set(sets[0])]))


class LeavingsTest(unittest.TestCase):

    def test_the_fewest(self):
        seen = set()
        for shop, telling in made_up(150, 101):
            wanted = plain_fewest(telling, shop)
            self.assertEqual(fewest_out(telling, shop), len(wanted[0]))
            self.assertEqual(all_fewest_out(telling, shop), wanted)
            some = {at for own in wanted for at in own}
            each = set.intersection(*map(set, wanted))
            self.assertEqual(suspects(telling, shop), tuple(sorted(some)))
            self.assertEqual(blamed(telling, shop), tuple(sorted(each)))
            self.assertEqual(trusted(telling, shop), rest_of(some, len(telling)))
            seen.add(len(wanted[0]))
        self.assertTrue({0, 1, 2} <= seen, seen)

    def test_all_leavings(self):
        for shop, telling in made_up(60, 102):
            found = plain_leavings(telling, shop)
            for own in all_sets(len(telling)):
                self.assertIs(is_leaving(telling, shop, own), own in found)

    def test_a_leaving_has_a_row_of_each_least_bad_set(self):
        for shop, telling in made_up(60, 103):
            least = least_of(plain_bad(telling, shop))
            for own in all_sets(len(telling)):
                self.assertEqual(is_leaving(telling, shop, own), all(set(own) & set(each) for each in least))
            for number in range(len(telling)):
                self.assertEqual(hit_by(telling, shop, number), [each for each in least if number in each])

    def test_one_row_fewer_or_more(self):
        for shop, telling in made_up(60, 104):
            fewest = fewest_out(telling, shop)
            for at in range(len(telling)):
                less = fewest_out(telling[:at] + telling[at + 1:], shop)
                self.assertEqual(less, fewest - (at in suspects(telling, shop)))
            self.assertIn(fewest_out(telling[:-1], shop), (fewest, max(0, fewest - 1)))

    def test_from_shop_to_shop(self):
        seen = set()
        for _, telling in made_up(120, 105):
            many = [fewest_out(telling, shop) for shop in SHOPS]
            self.assertEqual(many, sorted(many, reverse=True))
            seen.add(many[0] - many[2])
        self.assertTrue({0, 1} <= seen)

    def test_kept_and_doubted(self):
        seen = set()
        for shop, telling in made_up(80, 106):
            bad, found, dice = plain_bad(telling, shop), plain_leavings(telling, shop), Dice(len(telling))
            for kept in all_sets(len(telling)):
                many = [len(own) for own in found if not set(own) & set(kept)]
                if kept in bad:
                    self.assertEqual(outcome(out_for, telling, shop, kept), ("raised", "CanNot", {}))
                else:
                    self.assertEqual(out_for(telling, shop, kept), min(many))
                seen.add((kept in bad, not many))
            for top in (1, 3, 10 ** 6):
                doubts = tuple(dice.rolls.randint(1, top) for _ in telling)
                wanted = min(sum(doubts[at] for at in own) for own in found)
                self.assertEqual(cheapest_out(telling, shop, doubts), wanted)
        self.assertEqual(seen, {(True, True), (False, False)})

    def test_no_rows_and_rows_that_all_lie(self):
        for shop in SHOPS:
            self.assertEqual((fewest_out((), shop), all_fewest_out((), shop), suspects((), shop), blamed((), shop),
                              trusted((), shop), papers_apart((), shop), cheapest_out((), shop, ()), out_for((), shop, ())),
                             (0, [()], (), (), (), (), 0, 0))
            many = (LIE,) * 10
            self.assertEqual((fewest_out(many, shop), blamed(many, shop), trusted(many, shop)),
                             (10, tuple(range(10)), ()))
            self.assertEqual(papers_apart(many, shop), tuple((at,) for at in range(10)))
            self.assertEqual((hit_by(many, shop, 9), cheapest_out(many, shop, tuple(range(1, 11)))), ([(9,)], 55))
            self.assertIs(is_leaving((), shop, ()), True)

    def test_leavings_with_one_flaw(self):
        self.assertIs(is_leaving(LYING, "still", (1, 4, 5)), True)
        self.assertIs(is_leaving(LYING, "still", (0, 1, 2, 4, 5)), True)
        for flawed in ([1, 4, 5], (1, 5, 4), (4, 5), (1, 5), (1, 4, 5, 5), (1, 4, 5, 6), (-1, 1, 4, 5), (True, 4, 5),
                       (1, 4, "5"), (1, 4, (5,)), (), None, 5, ((1, 4, 5),)):
            self.assertIs(is_leaving(LYING, "still", flawed), False, flawed)


class TenRowsTest(unittest.TestCase):

    def test_beside_all_sets(self):
        either, dice = (("lib", (1, 2, 3)),), Dice(109)
        for shop in SHOPS * 2:
            telling = tuple((dice.rolls.randint(0, 3), either, (("lib", dice.rolls.randint(1, 3)),)) for _ in range(9)) + (LIE,)
            found = [own for own in all_sets(10) if is_leaving(telling, shop, own)]
            fewest = min(map(len, found))
            self.assertEqual((fewest_out(telling, shop), all_fewest_out(telling, shop)),
                             (fewest, sorted(own for own in found if len(own) == fewest)))
            for kept in ((0,), (1, 2), (3, 5, 8)):
                many = [len(own) for own in found if not set(own) & set(kept)]
                self.assertEqual(outcome(out_for, telling, shop, kept), ("gave", min(many)) if many else ("raised", "CanNot", {}))
            doubts = tuple(dice.rolls.randint(1, 9) for _ in telling)
            self.assertEqual(cheapest_out(telling, shop, doubts), min(sum(doubts[at] for at in own) for own in found))
            least = [hit for at in range(10) for hit in hit_by(telling, shop, at) if hit[0] == at]
            bad = [own for own in all_sets(10) if not is_leaving(telling, shop, rest_of(own, 10))]
            self.assertEqual(least, least_of(bad))
            self.assertEqual(len(papers_apart(telling, shop)), most_apart(least))

    def test_as_many_pairs_as_can_be(self):
        telling = tuple((0, (("a", tuple(range(1, 11))),), (("a", version),)) for version in range(1, 11))
        self.assertEqual((fewest_out(telling, "still"), len(all_fewest_out(telling, "short")), suspects(telling, "growing")),
                         (9, 10, tuple(range(10))))
        self.assertEqual(sorted(at for own in papers_apart(telling, "still") for at in own), list(range(10)))
        none = tuple((day, (("a", (1, 2)),), (("a", 1),)) for day in range(10))
        for shop in SHOPS:
            self.assertEqual((all_fewest_out(none, shop), papers_apart(none, shop), trusted(none, shop), blamed(none, shop)),
                             ([()], (), tuple(range(10)), ()))
            self.assertEqual((out_for(none, shop, (0, 9)), cheapest_out(none, shop, (3,) * 10), hit_by(none, shop, 9)), (0, 0, []))


class PapersApartTest(unittest.TestCase):

    def test_as_many_as_can_be(self):
        seen = set()
        for shop, telling in made_up(150, 107, 6):
            bad = plain_bad(telling, shop)
            least = least_of(bad)
            found = papers_apart(telling, shop)
            self.assertEqual(list(found), sorted(set(found)))
            self.assertTrue(set(found) <= set(least))
            self.assertTrue(all(not set(one) & set(two) for one, two in itertools.combinations(found, 2)))
            self.assertEqual(len(found), most_apart(least))
            self.assertLessEqual(len(found), fewest_out(telling, shop))
            self.assertIs(is_papers_apart(telling, shop, found), True)
            seen.add(len(found))
        self.assertTrue({0, 1, 2} <= seen, seen)

    def test_fewer_than_have_to_be_left_out(self):
        # Of three ROWS each two are bad: two have to be left out, but no two bad sets are apart.
        telling = tuple((day, (("a", (1, 2, 3)),), (("a", version),)) for day, version in enumerate((1, 2, 3)))
        self.assertEqual((fewest_out(telling, "still"), len(papers_apart(telling, "still"))), (2, 1))
        self.assertEqual((fewest_out(telling, "growing"), papers_apart(telling, "growing")), (0, ()))

    def test_all_sets_of_sets(self):
        for shop, telling in made_up(25, 108, 3):
            bad, sets = plain_bad(telling, shop), all_sets(len(telling))
            for own in itertools.chain(*[itertools.permutations(sets, many) for many in range(3)]):
                wanted = all(each in bad for each in own) and list(own) == sorted(set(own)) and (
                    len(own) < 2 or not set(own[0]) & set(own[1]))
                self.assertIs(is_papers_apart(telling, shop, own), wanted)

    def test_papers_with_one_flaw(self):
        fine = ((0, 1), (2, 4), (5,))
        telling = LYING[:4] + ((4, (("cup", (1, 2)),), None), LIE)
        self.assertIs(is_papers_apart(telling, "still", fine), True)
        for flawed in (list(fine), fine[::-1], fine + fine[-1:], ([0, 1], (2, 4)), ((1, 0), (2, 4)), ((0, 1), (1, 2)),
                       ((0, 1), (3,)), ((), (0, 1)), ((0, 1, 6),), ((-1, 0, 1),), ((0, True),), ((5, 5),), (5,), ((5,), None),
                       ((0, 1), (2, 4), (4, 5)), None, ((0, 2),), [[0, 1]]):
            self.assertIs(is_papers_apart(telling, "still", flawed), False, flawed)
        for more in ((), ((0, 1, 2, 3, 4, 5),), ((0, 1), (2, 3, 4)), ((5,),), ((0, 1, 3), (5,))):
            self.assertIs(is_papers_apart(telling, "still", more), True, more)


class ErrorsTest(unittest.TestCase):

    def raised(self, kind, function, *given):
        with self.assertRaises(kind, msg=(function.__name__, given)) as caught:
            function(*given)
        return caught.exception

    def test_numbers_of_no_row(self):
        for telling in (HEARD, HEARD * 3, ()):
            many = len(telling)
            for number in (-1, many, 99, -(10 ** 9)):
                self.assertEqual(self.raised(NoRow, hit_by, telling, "still", number).number, number)
                self.assertEqual(self.raised(NoRow, out_for, telling, "still", (number,)).number, number)
            self.assertEqual(self.raised(NoRow, out_for, telling, "still", (-3, -2, many)).number, -3)
            self.assertEqual(self.raised(NoRow, out_for, telling, "still", (many, many + 5)).number, many)
        self.assertEqual(self.raised(NoRow, out_for, HEARD * 3, "still", [0, 1, 12]).number, 12)

    def test_more_than_ten_rows(self):
        fine = HEARD * 2 + HEARD[2:]
        self.assertEqual((fewest_out(fine, "still"), len(all_fewest_out(fine, "still"))), (2, 1))
        for telling in (fine + HEARD[3:], HEARD * 3):
            doubts = (1,) * len(telling)
            for function, more in ((fewest_out, ()), (all_fewest_out, ()), (suspects, ()), (blamed, ()), (trusted, ()),
                                   (hit_by, (0,)), (out_for, ((),)), (out_for, ((0, 1),)), (papers_apart, ()),
                                   (cheapest_out, (doubts,)), (cheapest_out, ((),)), (cheapest_out, (doubts[1:],))):
                self.raised(TooMany, function, telling, "still", *more)
            self.assertIs(is_leaving(telling, "still", (1, 5)), len(telling) == 11)
            self.assertIs(is_papers_apart(telling, "still", ((0, 1), (4, 5))), True)
            self.assertIs(is_papers_apart(telling, "still", None), False)

    def test_unfit_doubts(self):
        for doubts in ((), (1, 1, 1), (1,) * 5, [1, 2, 3], (1, 1, 1, 0), (1, -1, 1, 1), (1, 1, None, 1)):
            self.raised(Unfit, cheapest_out, HEARD, "still", doubts)
        self.raised(Unfit, cheapest_out, (), "still", (1,))

    def test_cannot(self):
        for kept in ((0, 1), (1, 2), (0, 1, 2, 3)):
            self.raised(CanNot, out_for, HEARD, "still", kept)
        self.raised(CanNot, out_for, LYING, "short", (5,))
        self.assertEqual((out_for(HEARD, "still", ()), out_for(HEARD, "still", (3,)), out_for(HEARD, "growing", (1,))), (1, 1, 1))


if __name__ == "__main__":
    unittest.main()
