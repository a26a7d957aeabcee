"""[18]: ranks.py, beside all orders of NAMES, all SHELVES of a small universe, and plain reckonings of RIVALS."""

import functools
import itertools
import unittest

from helper import SHOPS, Dice, JudgeCase, locks_over, mutants, outcome, plain_all_woven, plain_met, plain_standing, same
from histories import all_histories, made_up_telling
from papers import best_by, plain_names_of, plain_ranks, rank_ok, rank_paper_ok
from lockstold.errors import CanNot, NoPaper, NoRow
from lockstold.ranks import (all_ranks, answer_by, can_be_first, fits_rank, is_rank, is_rank_paper, least_rank, rank_paper, rivals,
                             sure_ahead)
from lockstold.standing import answer_of
from lockstold.told import has_shelf

ONE, TWO, MIX = (("a", 1), ("b", 1), ("c", 2)), (("a", 1), ("b", 2), ("c", 1)), (("a", (1,)),)
HEARD = ((0, MIX, ONE), (1, (("b", (2,)), ("a", (1,))), TWO))
TORN = HEARD + ((2, MIX, TWO),)
STUCK = ("stuck", ("b", "c"), ((0, TWO, (1,)), (2, ONE, (0,))))


def made_up(many, seed, lies=0.2):
    """Pairs of a SHOP and a TELLING told by some RANK, with some ROWS that lie."""
    dice = Dice(seed)
    for _ in range(many):
        shop = dice.pick(SHOPS)
        names = dice.pick((("a", "b"), ("a", "b", "c"), ("a", "b", "c"), ("a", "b", "c", "d")))
        shelf, rank = dice.strict_shelf(names, 2, 2, shop), list(names)
        dice.rolls.shuffle(rank)
        telling = []
        for _ in range(dice.pick((1, 2, 3, 4, 5))):
            wish, day = dice.wish(dice.rolls.sample(names, dice.pick((0, 1, 1, 2))), 2), dice.rolls.randint(0, 2)
            answer = best_by(wish, rank, plain_standing(shelf, day))
            if dice.rolls.random() < lies:
                answer = dice.pick((None, dice.lock(names, 2)))
            telling.append((day, wish, answer))
        yield shop, tuple(telling)


def bound(many, seed):
    """The same with LOCKS that have all NAMES: what is better at one is often worse at another."""
    dice = Dice(seed)
    for _ in range(many):
        shop, names = dice.pick(SHOPS), dice.pick((("a", "b", "c"), ("a", "b", "c", "d")))
        pool = [tuple((name, dice.rolls.randint(1, 2)) for name in names) for _ in range(dice.pick((2, 3)))]
        telling = []
        for _ in range(dice.pick((2, 3, 4))):
            answer = dice.pick(pool)
            wish = tuple((name, dice.pick(((state,), (1, 2)))) for name, state in dice.rolls.sample(answer, dice.pick((1, 1, 2))))
            telling.append((dice.pick((0, 0, 1)), wish, answer))
        yield shop, tuple(telling)


def bound_shelf(dice):
    """A SHELF on which a wants b, and b the other VERSION of c."""
    names, found = ("a", "b", "c"), []
    for name, version in itertools.product(names, (1, 2)):
        lots = {"a": {"b": (1, 2)}, "b": {"c": (3 - version,)}, "c": {}}[name]
        lots.update({other: dice.some((0, 1, 2), 1) for other in names if other > name and dice.rolls.random() < 0.2})
        found.append(((name, version), tuple(sorted(lots.items())), dice.pick((0, 0, 0, 3)), None))
    return tuple(found)


@functools.lru_cache(None)
def answer_among(locks, wish, rank):
    return best_by(wish, rank, locks)


class RanksTest(unittest.TestCase):

    def test_beside_all_orders_of_names(self):
        seen = set()
        for shop, telling in itertools.chain(made_up(120, 181), bound(200, 188)):
            wanted = plain_ranks(telling, shop)
            names = plain_names_of(telling)
            for own in itertools.permutations(names):
                self.assertIs(fits_rank(telling, shop, own), own in wanted, (telling, shop, own))
            self.assertEqual(all_ranks(telling, shop), wanted)
            if wanted:
                self.assertEqual(least_rank(telling, shop), wanted[0])
                ahead = tuple((one, two) for one in names for two in names if one != two
                              and all(own.index(one) < own.index(two) for own in wanted))
                self.assertEqual(sure_ahead(telling, shop), ahead)
                self.assertEqual(can_be_first(telling, shop), tuple(sorted({own[0] for own in wanted if own})))
                self.assertEqual(outcome(rank_paper, telling, shop), ("raised", "NoPaper", {}))
                seen.add((len(names), len(wanted)))
            else:
                self.check_none(telling, shop)
                seen.add(rank_paper(telling, shop)[0])
        self.assertTrue({"unmet", "ahead", "stuck", (2, 2), (3, 6), (3, 3), (4, 24), (4, 16), (4, 12)} <= seen, seen)

    def check_none(self, telling, shop):
        for function in (least_rank, sure_ahead, can_be_first):
            self.assertEqual(outcome(function, telling, shop), ("raised", "CanNot", {}))
        found = rank_paper(telling, shop)
        self.assertTrue(rank_paper_ok(telling, shop, found), (telling, shop, found))
        self.assertIs(is_rank_paper(telling, shop, found), True)

    def test_beside_all_shelves(self):
        dice, seen = Dice(182), set()
        for _ in range(60):
            shop = dice.pick(SHOPS)
            telling = made_up_telling(dice, shop, dice.pick((1, 2, 3)), 0.3)
            for rank in itertools.permutations(plain_names_of(telling)):
                wanted = any(all(answer_among(own[day], wish, rank) == answer for day, wish, answer in telling)
                             for own, _ in all_histories(shop))
                self.assertIs(fits_rank(telling, shop, rank), wanted, (telling, shop, rank))
                seen.add((len(rank), wanted))
        self.assertEqual({own for own in seen if own[0]}, {(many, fit) for many in (1, 2) for fit in (True, False)})

    def test_by_the_ascending_rank_as_without_any(self):
        for shop, telling in made_up(60, 183):
            self.assertEqual(fits_rank(telling, shop, plain_names_of(telling)), has_shelf(telling, shop))

    def test_hard_by_hand(self):
        self.assertEqual(all_ranks(HEARD, "growing"), [own for own in itertools.permutations("abc")])
        self.assertEqual(all_ranks(HEARD + ((1, MIX, ONE),), "growing"), all_ranks(HEARD, "still"))
        self.assertEqual((sure_ahead(HEARD, "growing"), can_be_first(HEARD, "growing")), ((), ("a", "b", "c")))
        # By "short" neither LOCK is there on the DAY of the other one, but for what tells it there.
        self.assertEqual((len(all_ranks(TORN, "short")), all_ranks(TORN + ((0, (("b", (2,)),), TWO),), "short")),
                         (6, [("a", "c", "b"), ("c", "a", "b"), ("c", "b", "a")]))
        # NAMES that only a WISH has stand in a RANK, too.
        wished = ((0, (("z", (1,)), ("a", (1,))), None),)
        self.assertEqual((all_ranks(wished, "still"), sure_ahead(wished, "still")), ([("a", "z"), ("z", "a")], ()))

    def test_of_no_rows_and_of_no_names(self):
        for shop in SHOPS:
            for telling in ((), ((0, (), ()),), ((3, (), ()), (4, (), ()))):
                self.assertEqual((all_ranks(telling, shop), least_rank(telling, shop), sure_ahead(telling, shop),
                                  can_be_first(telling, shop), fits_rank(telling, shop, ())), ([()], (), (), (), True))
                self.assertIs(is_rank(telling, ()), True)
            none = ((0, (), None),)
            self.assertEqual((all_ranks(none, shop), rank_paper(none, shop)), ([], ("ahead", 0, (), ())))

    def test_many_names(self):
        # b to e go each for itself with a 1; what stands on one is sought behind the others.
        lock = (("a", 1), ("b", 2), ("c", 2), ("d", 2), ("e", 2))
        telling = [(0, (("a", (1,)),), lock)]
        for at, name in enumerate("bcde"):
            other = tuple((own, 1 if own == name else version) for own, version in lock)
            telling.append((0, ((name, (1,)), ("a", (1,))), other))
        self.assertEqual(len(all_ranks(telling, "still")), 120)
        self.assertEqual(least_rank(telling, "still"), tuple("abcde"))
        great = ((0, (("abcdefghijkl", (10 ** 6,)),), (("abcdefghijkl", 10 ** 6), ("b", 10 ** 6))),) * 12
        self.assertEqual(all_ranks(great, "short"), [("abcdefghijkl", "b"), ("b", "abcdefghijkl")])


class RivalsTest(unittest.TestCase):

    def test_beside_all_woven_locks(self):
        seen = set()
        for shop, telling in made_up(120, 184):
            for at, (day, wish, answer) in enumerate(telling):
                wanted = [own for own in plain_all_woven(telling, shop, day) if own != answer and plain_met(wish, own)]
                self.assertEqual(rivals(telling, shop, at), wanted)
                seen.add(len(wanted))
        self.assertTrue({0, 1, 2, 3} <= seen, seen)

    def test_numbers_of_no_row(self):
        for telling in ((), HEARD, HEARD * 6):
            for number in (-1, len(telling), 99):
                with self.assertRaises(NoRow) as caught:
                    rivals(telling, "still", number)
                self.assertEqual(caught.exception.number, number)


class AnswerByTest(unittest.TestCase):

    def test_beside_all_standing_locks(self):
        dice, unlike = Dice(185), 0
        for at in range(200):
            shelf, day = (dice.shelf, lambda: bound_shelf(dice))[at % 2](), dice.rolls.randint(0, 6)
            wish = dice.wish("a" if at % 2 else dice.rolls.sample("abc", dice.pick((0, 1, 2))), 2)
            rank = dice.rolls.sample(("a", "b", "c", "x", "z"), dice.rolls.randint(0, 5))
            wanted = best_by(wish, rank, plain_standing(shelf, day))
            self.assertEqual(answer_by(shelf, tuple(rank), day, wish), wanted)
            self.assertEqual(answer_by(shelf, (), day, wish), answer_of(shelf, wish, day))
            unlike += wanted != answer_of(shelf, wish, day)
        self.assertGreater(unlike, 5)

    def test_by_hand(self):
        shelf = ((("a", 1), (("b", (1, 2)), ("c", (1, 2))), 0, None), (("b", 1), (("c", (2,)),), 0, None),
                 (("b", 2), (("c", (1,)),), 0, None), (("c", 1), (), 0, None), (("c", 2), (), 4, None))
        self.assertEqual([answer_by(shelf, rank, 4, MIX) for rank in ((), ("b",), ("c",), ("z", "c", "b"), ("a", "b", "c"))],
                         [TWO, TWO, ONE, ONE, TWO])
        self.assertEqual([answer_by(shelf, ("c",), day, MIX) for day in (0, 3, 4)], [TWO, TWO, ONE])
        self.assertEqual(answer_by(shelf, ("c", "b"), 9, (("b", (1, 2)), ("a", (1,)))), TWO)
        self.assertEqual((answer_by(shelf, ("c",), 9, (("b", (3,)),)), answer_by((), ("a", "b"), 0, ()), answer_by((), (), 0, MIX)),
                         (None, (), None))

    def test_more_locks_than_are_gone_through_elsewhere(self):
        wide = tuple(((name, version), (), 0, None) for name in "abcdef" for version in (1, 2, 3, 4))
        self.assertEqual(answer_by(wide, ("f", "a"), 0, (("b", (1, 3)),)), (("b", 3),))


class JudgesTest(JudgeCase):

    def test_ranks(self):
        self.check(lambda thing: is_rank(HEARD, thing), lambda thing: rank_ok(HEARD, thing),
                   list(itertools.permutations("abc")) + [("a", "b"), ("a", "b", "c", "d"), ("a", "a", "b", "c")])

    def test_rank_papers(self):
        seeds = [STUCK, ("stuck", ("c",), ((2, ONE, (0,)),)), ("ahead", 3, ONE, (0,)), ("ahead", 4, (("a", 1),), (5,)), ("unmet", 5)]
        telling = TORN + ((2, (("b", (1, 2)),), None), (2, (("c", (1, 2)), ("a", (1, 2))), (("c", 2),)), (2, MIX, (("c", 3),)))
        for shop in SHOPS:
            self.check(lambda thing: is_rank_paper(telling, shop, thing), lambda thing: rank_paper_ok(telling, shop, thing), seeds)
        self.check(lambda thing: is_rank_paper(TORN, "still", thing), lambda thing: rank_paper_ok(TORN, "still", thing), [STUCK])
        for thing in mutants(STUCK):
            self.assertIs(is_rank_paper(HEARD, "still", thing), False)

    def test_papers_with_one_flaw(self):
        self.assertIs(is_rank_paper(TORN, "still", STUCK), True)
        names, (first, second) = STUCK[1:]
        for flawed in (list(STUCK), STUCK[:2], ("stock",) + STUCK[1:], ("stuck", names[::-1], (second, first)), ("stuck", (), ()),
                       ("stuck", ("b",), (first,)), ("stuck", ("c",), (second,)), ("stuck", names, (second, first)),
                       ("stuck", names, ((0, TWO, ()), second)), ("stuck", names, ((0, TWO, (0,)), second)),
                       ("stuck", names, ((1, TWO, (1,)), second)), ("stuck", names, ((0, ONE, (0,)), second)),
                       ("stuck", names, ((0, TWO, [1]), second)), ("stuck", ("b", "b"), (first, first)),
                       ("stuck", ("a", "b", "c"), (first, first, second)), ("ahead", 0, TWO, (1,)), ("unmet", 0), ("unmet", True)):
            self.assertIs(is_rank_paper(TORN, "still", flawed), False, flawed)
        self.assertTrue(same(rank_paper(TORN, "still"), rank_paper([list(own) for own in TORN], "still")))

    def test_all_papers_of_small_tellings(self):
        # Whatever RIVALS there are: a paper exactly if no RANK fits.
        many = 0
        for shop, telling in itertools.chain(made_up(40, 186, 0.5), bound(30, 187)):
            fit = bool(plain_ranks(telling, shop))
            locks = locks_over({"a": (1, 2), "b": (1, 2)})
            for at, lock in itertools.product(range(len(telling)), locks):
                for thing in (("unmet", at), ("ahead", at, lock, tuple(range(len(telling))))):
                    found = is_rank_paper(telling, shop, thing)
                    self.assertIs(found, rank_paper_ok(telling, shop, thing))
                    self.assertFalse(found and fit)
                    many += found
        self.assertGreater(many, 20)


class ErrorsTest(unittest.TestCase):

    def test_none_fits(self):
        for function, given in itertools.product((least_rank, sure_ahead, can_be_first),
                                                 ((TORN, "still"), (((0, (), None),), "short"), (((0, MIX, ()),), "growing"))):
            with self.assertRaises(CanNot):
                function(*given)
        for given in ((HEARD, "still"), (TORN, "growing"), ((), "still")):
            with self.assertRaises(NoPaper):
                rank_paper(*given)


if __name__ == "__main__":
    unittest.main()
