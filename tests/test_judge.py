"""[21]: judge.py, each CLAIM beside a plain reckoning, each PAPER beside plain judges."""

import itertools
import unittest

from helper import (SHOPS, Dice, JudgeCase, against_ok, all_deals, all_sets, lock_ok, mutants, number_ok, outcome, plain_answer,
                    plain_has, plain_standing, plain_woven, row_ok, same, shelf_ok, telling_ok, wish_ok)
from lockstold.errors import NoWord, TooMany, Unfit
from lockstold.judge import is_claim, is_paper, is_so, not_so, paper, shows, words_so
from papers import (all_gaps, apart_rows_ok, day_knot_ok, day_order_ok, deal_ok, leaving_ok, lenders_ok, papers_apart_ok, plain_order,
                    plain_ranks, plain_worn, rank_ok, rank_paper_ok, teller_ok)

OLD, NEW = (0, (("a", (1, 2)),), (("a", 1),)), (0, (("a", (2,)),), (("a", 2),))
LATE, LIE = (5,) + NEW[1:], (0, (("a", (2,)),), (("a", 1),))
LOW, BOTH = ((("a", 1), (), 0, None),), ((("a", 1), (), 0, None), (("a", 2), (), 5, None))
BETTER = ("better", 0, (("a", 2),), (1,))
WIDE = tuple(((name, version), (), 3, None) for name in "abcdef" for version in (1, 2, 3, 4))


def plain_fewest_out(telling, shop):
    return min(len(own) for own in all_sets(len(telling)) if leaving_ok(telling, shop, own))


def plain_fewest_sets(telling, shop):
    return min((len(own) for own in all_deals(len(telling)) if deal_ok(telling, shop, own)), default=None)


def plain_so(claim):
    """Whether claim is so, by the words of its point."""
    word, parts = claim[0], claim[1:]
    if word == "told":
        return plain_has(parts[1], parts[0])
    if word == "alike":
        return plain_standing(parts[1], parts[0]) == plain_standing(parts[2], parts[0])
    if word == "woven":
        return plain_woven(parts[1], parts[0], parts[2], parts[3])
    if word == "come":
        return plain_has(parts[1] + (parts[2:],), parts[0])
    if word == "out":
        return plain_fewest_out(parts[1], parts[0]) <= parts[2]
    if word == "mirrors":
        fewest = plain_fewest_sets(parts[1], parts[0])
        return fewest is not None and fewest <= parts[2]
    if word == "ranked":
        return plain_ranks(parts[1], parts[0]) != []
    return any(plain_order(parts[0], own) for own in itertools.permutations(range(len(parts[0]))))


def shows_so(claim, thing):
    """Whether thing is a PAPER that claim is so, if it is."""
    word, parts = claim[0], claim[1:]
    if word == "told":
        return teller_ok(parts[0], parts[1], thing)
    if word == "alike":
        return same(thing, plain_worn(parts[1], parts[0]))
    if word == "woven":
        return lenders_ok(parts[1], parts[0], parts[2], parts[3], thing)
    if word == "come":
        return teller_ok(parts[0], parts[1] + (parts[2:],), thing)
    if word == "out":
        return leaving_ok(parts[1], parts[0], thing) and len(thing) <= parts[2]
    if word == "mirrors":
        return deal_ok(parts[1], parts[0], thing) and len(thing) <= parts[2]
    if word == "ranked":
        return rank_ok(parts[1], thing) and thing in plain_ranks(parts[1], parts[0])
    return day_order_ok(parts[0], thing)


def shows_not_so(claim, thing):
    """Whether thing is a PAPER that claim is not so, if it is not."""
    word, parts = claim[0], claim[1:]
    if word == "told":
        return against_ok(parts[1], parts[0], thing)
    if word == "alike":
        return wish_ok(thing) and plain_answer(parts[1], thing, parts[0]) != plain_answer(parts[2], thing, parts[0])
    if word == "woven":
        return any(same(thing, own) for own in all_gaps(parts[1], parts[0], parts[2], parts[3]))
    if word == "come":
        return against_ok(parts[1] + (parts[2:],), parts[0], thing)
    if word == "out":
        if papers_apart_ok(parts[1], parts[0], thing) and len(thing) > parts[2]:
            return True
        return leaving_ok(parts[1], parts[0], thing) and parts[2] < len(thing) == plain_fewest_out(parts[1], parts[0])
    if word == "mirrors":
        if type(thing) is tuple and len(thing) == 2 and same(thing[0], "alone"):
            return number_ok(thing[1], 0) and thing[1] < len(parts[1]) and not plain_has([parts[1][thing[1]]], parts[0])
        if apart_rows_ok(parts[1], parts[0], thing) and len(thing) > parts[2]:
            return True
        return deal_ok(parts[1], parts[0], thing) and parts[2] < len(thing) == plain_fewest_sets(parts[1], parts[0])
    if word == "ranked":
        return rank_paper_ok(parts[1], parts[0], thing)
    return day_knot_ok(parts[0], thing)


def plain_shows(claim, thing):
    so = plain_so(claim)
    return so if (shows_so if so else shows_not_so)(claim, thing) else None


def made_up(word, many, seed):
    """So many CLAIMS of this word."""
    dice = Dice(seed)
    for _ in range(many):
        shop, names = dice.pick(SHOPS), dice.pick((("a", "b"), ("a", "b", "c")))
        lies = dice.pick((0.2, 0.8) if word in ("out", "mirrors", "ordered") else (0, 0.3))
        telling = dice.telling(names, rows=4, lies=lies, shop=dice.pick((shop, None)))
        day = dice.rolls.randint(0, 4)
        if word == "alike":
            shelf = dice.shelf(("a", "b"), days=3)
            other = tuple(own if dice.rolls.random() < 0.8 else own[:2] + (day, None) for own in shelf)
            yield (word, day, shelf, dice.pick((other, shelf[:-1], shelf[1:], shelf)))
        elif word == "woven":
            told = [row[2] for row in telling if row[2]] + [dice.lock(names, 2)]
            yield (word, shop, telling, day, dice.pick(told))
        elif word == "come":
            wish = dice.wish(dice.rolls.sample(names, 1), 2)
            yield (word, shop, telling, day, wish, dice.pick((None, dice.lock(names, 2), tuple((own, 1) for own, _ in wish))))
        elif word in ("out", "mirrors"):
            yield (word, shop, telling, dice.pick((0, 0, 1, 1, 2)))
        elif word == "ordered":
            yield (word, telling)
        else:
            yield (word, shop, telling)


WORDS = ("told", "alike", "woven", "come", "out", "mirrors", "ranked", "ordered")
PARTS = {"told": "st", "alike": "dhh", "woven": "stdl", "come": "stdwg", "out": "std", "mirrors": "std", "ranked": "st", "ordered": "t"}
KINDS = {"s": lambda own: type(own) is str and own in SHOPS, "t": telling_ok, "d": lambda own: number_ok(own, 0), "h": shelf_ok,
         "l": lock_ok, "w": wish_ok, "g": lambda own: own is None or lock_ok(own)}


def claim_ok(thing):
    if type(thing) is not tuple or not thing or type(thing[0]) is not str or thing[0] not in PARTS:
        return False
    kinds = PARTS[thing[0]]
    return len(thing) == len(kinds) + 1 and all(KINDS[kind](own) for kind, own in zip(kinds, thing[1:]))


# Of each word a CLAIM that is so and one that is not, each with PAPERS and with things that are none, by one flaw each.
BY_HAND = (
    (("told", "still", (OLD,)), (LOW, LOW + ((("b", 3), (), 0, None),)), ((), BOTH, list(LOW), BETTER, ("unmet", 0), LOW + LOW, None)),
    (("told", "growing", (OLD, LATE)), (BOTH, BOTH + ((("b", 1), (("a", (9,)),), 0, None),)),
     (LOW, (LOW[0], (("a", 2), (), 0, None)), (LOW[0], (("a", 2), (), 6, None)), (LOW[0], (("a", 2), (), 5, 9)))),
    (("told", "short", (OLD, LATE)), (BOTH, (LOW[0], (("a", 2), (), 5, 5)), ((("a", 1), (), 0, 0), (("a", 2), (), 5, None))),
     ((LOW[0], (("a", 2), (), 0, 5)), (LOW[0], (("a", 2), (), 6, 9)), LOW)),
    (("told", "still", (OLD, NEW)), (BETTER, BETTER[:3] + ((0, 1),)), (LOW, BOTH, BETTER[:3] + ((0,),), ("better", 1) + BETTER[2:], ("unmet", 0))),
    (("told", "short", (LIE,)), (("unmet", 0),), (("unmet", 1), ("unmet", False), ("unmet", 0, 0), (), LOW)),
    (("alike", 4, LOW, BOTH), (LOW,), (BOTH, (), ((("a", 1), (), 0, 4),), ((("a", 1), (("b", (0,)),), 0, None),), (("a", (2,)),))),
    (("alike", 5, LOW, BOTH), ((("a", (2,)),), (("a", (1, 2)),)), ((("a", (1,)),), (), LOW, [("a", (2,))], (("a", (3,)),))),
    (("woven", "still", (OLD,), 9, (("a", 1),)), ((((("a", 1), (0,)),), ()),), ((((("a", 1), (0, 0)),), ()), (((("a", 1), (1,)),), ()), ((), ()))),
    (("woven", "short", (OLD, LATE), 3, (("a", 2),)), (("early", ("a", 2)),), (("late", ("a", 2)), ("never", ("a", 2)), ("early", ("a", 1)))),
    (("come", "growing", (OLD,), 5, NEW[1], NEW[2]), (BOTH,), (LOW, BETTER, (LOW[0], (("a", 2), (), 6, None)))),
    (("come", "still", (OLD,), 0, NEW[1], NEW[2]), (BETTER,), (BOTH, LOW, BETTER[:3] + ((0,),), BETTER[:3] + ((2,),))),
    (("out", "still", (OLD, NEW), 1), ((0,), (1,)), ((), (0, 1), ((0, 1),), [0], (2,), (True,))),
    (("out", "still", (OLD, NEW, LIE), 1), ((0, 2), (1, 2), ((0, 1), (2,))), ((0, 1, 2), (2,), ((2,),), ((0, 1), (1, 2)), (), ((0, 2), (1, 2)))),
    (("mirrors", "still", (OLD, NEW), 2), (((0,), (1,)),), ((0, 1), ((0, 1),), ((1,), (0,)), ((0,),), ())),
    (("mirrors", "short", (OLD, LATE), 2), (((0, 1),), ((0,), (1,))), ((0, 1), ((0,),), ("alone", 0))),
    (("mirrors", "still", (OLD, NEW), 1), ((0, 1), ((0,), (1,))), ((0,), (), ("alone", 0), ((0, 1),), (1, 0))),
    (("mirrors", "still", (OLD, NEW, OLD), 1), ((0, 1), (1, 2), ((0, 2), (1,))), ((0, 2), ((0,), (1,), (2,)), (0, 1, 2))),
    (("mirrors", "still", (OLD, LIE), 9), (("alone", 1),), (("alone", 0), ("alone", True), ("alone", 2), ("alone",), (0, 1), ((0,), (1,)))),
    (("mirrors", "growing", (OLD, LIE), 1), (("alone", 1), (0, 1)), ((1,), (0,), ((0, 1),), ("alone", 1, 1))),
    (("mirrors", "growing", (OLD,), 0), ((0,), ((0,),)), ((), ("alone", 0), ((),))),
    (("ranked", "still", (OLD,)), (("a",),), ((), ("a", "a"), ("b",), ["a"], ("ahead",) + BETTER[1:])),
    (("ranked", "still", (OLD, NEW)), (("ahead",) + BETTER[1:],), (BETTER, ("a",), ("ahead", 0, (("a", 2),), (0,)), ("unmet", 0), ("stuck", ("a",), ()))),
    (("ordered", (OLD, NEW)), ((0, 1),), ((1, 0), (0,), (0, 1, 2), (False, 1), ())),
    (("ordered", (LIE, OLD)), ((0,),), ((1,), (0, 1), (), [0], (False,))),
    (("ordered", ()), ((),), ((0,), None, [])),
    (("out", "short", (), 0), ((),), ((0,), [], ((),))),
    (("mirrors", "short", (), 0), ((),), ((0,), ((),), ("alone", 0))),
)


class JudgeTest(JudgeCase):

    def test_by_hand(self):
        for claim, papers, others in BY_HAND:
            so = plain_so(claim)
            self.assertIs(is_so(claim), so, claim)
            for thing in papers:
                self.assertIs(shows(claim, thing), so, (claim, thing))
                self.assertIs(is_paper(claim, thing), True)
            for thing in others:
                self.assertIsNone(shows(claim, thing), (claim, thing))
                self.assertIs(is_paper(claim, thing), False)

    def test_each_word_so_and_not(self):
        for word in WORDS:
            seen, papers = {True: 0, False: 0}, []
            for claim in made_up(word, 40, word):
                so = plain_so(claim)
                self.assertIs(is_so(claim), so, claim)
                found = paper(claim)
                self.assertTrue((shows_so if so else shows_not_so)(claim, found), (claim, found))
                self.assertIs(shows(claim, found), so)
                self.assertIs(is_paper(claim, found), True)
                seen[so] += 1
                # PAPERS of one CLAIM are mostly none of another one.
                for thing in papers[-4:]:
                    self.assertIs(shows(claim, thing), plain_shows(claim, thing), (claim, thing))
                papers.append(found)
            self.assertGreaterEqual(min(seen.values()), 4, (word, seen))

    def test_things_that_are_much_like_papers(self):
        for word in WORDS:
            done = {True: 0, False: 0}
            for claim in made_up(word, 40, word + "s"):
                so = plain_so(claim)
                if done[so] < 2:
                    done[so] += 1
                    things = list(mutants(paper(claim)))
                    for thing in Dice(1).rolls.sample(things, min(len(things), 90)):
                        self.assertIs(shows(claim, thing), plain_shows(claim, thing), (claim, thing))
                        self.assertIs(is_paper(claim, thing), plain_shows(claim, thing) is not None)
            self.assertEqual(min(done.values()), 2, word)

    def test_small_sets_as_papers(self):
        for word in ("out", "mirrors", "ordered"):
            for claim in made_up(word, 12, word + "t"):
                many = len(claim[1] if word == "ordered" else claim[2])
                sets = all_sets(many)
                things = sets + all_deals(many) + [(own,) for own in sets] + list(itertools.permutations(range(many)))
                for thing in things + [("alone", at) for at in range(many + 1)]:
                    self.assertIs(shows(claim, thing), plain_shows(claim, thing), (claim, thing))

    def test_which_are_claims(self):
        seeds = [next(made_up(word, 1, word + "u")) for word in WORDS]
        seeds += [("come", "still", (), 0, (), None), ("mirrors", "short", (OLD,) * 20, 10 ** 9), ("told", "small", ()), ("sold", "still", ()),
                  ("ordered",), ("alike", 0, WIDE, WIDE), ("out", "still", (OLD,), -1)]
        for seed in seeds:
            for thing in mutants(seed):
                self.assertIs(is_claim(thing), claim_ok(thing), thing)
        self.assertEqual([is_claim(own) for own in seeds], [True] * 10 + [False] * 3 + [True, False])

    def test_of_several(self):
        dice, seen = Dice(211), set()
        for at in range(40):
            claims = tuple(next(made_up(dice.pick(WORDS), 1, repr((at, k)))) for k in range(dice.rolls.randint(0, 6)))
            known = [(own[0], plain_so(own)) for own in claims]
            self.assertEqual(not_so(claims), tuple(k for k, own in enumerate(known) if not own[1]))
            wanted = tuple(sorted({word for word, _ in known if all(so for other, so in known if other == word)}))
            self.assertEqual(words_so(claims), wanted)
            seen.add((len(claims), len(wanted)))
        self.assertTrue({(0, 0), (1, 0), (1, 1)} <= seen, seen)
        two = (("told", "still", (OLD,)), ("told", "still", (OLD, NEW)), ("ordered", ()))
        self.assertEqual((not_so(two), words_so(two), not_so(two[::-1]), words_so(two[::2])), ((1,), ("ordered",), (1,), ("ordered", "told")))


class ErrorsTest(unittest.TestCase):

    def calls(self, claim):
        things = (None, (), (0,), LOW, claim)
        return [(is_so, (claim,)), (paper, (claim,)), (not_so, ((claim,),)), (words_so, ((claim,),))] + [
            (function, (claim, thing)) for function in (is_paper, shows) for thing in things]

    def raised(self, kind, claim, **values):
        for function, given in self.calls(claim):
            with self.assertRaises(kind, msg=(function.__name__, given)) as caught:
                function(*given)
            self.assertEqual(vars(caught.exception), values)

    def test_no_word(self):
        for claim in (("sold", "still", ()), ("", "still", ()), ("TOLD",), ("told ", "still", ()), ["paper", 1, 2, 3, 4, 5, 6]):
            self.raised(NoWord, claim, word=claim[0])

    def test_unfit(self):
        for claim in ((), [], (0, "still", ()), (None,), (("told",), "still", ()), (True, 1), ("told",), ("told", "still"),
                      ("told", "still", (), ()), ("alike", 0, ()), ("woven", "still", (), 0), ("come", "still", (), 0, ()),
                      ("out", "still", ()), ("mirrors", "still", (), 1, 1), ("ranked", "still"), ("ordered",), ("ordered", (), ())):
            self.raised(Unfit, claim)

    def test_what_the_point_raises(self):
        # [12] raises Unfit for what is no TELLING and no SHOP; [9], [16], [17] raise TooMany.
        for claim in (("told", "big", ()), ("told", None, ()), ("told", "still", None), ("told", "still", (OLD[:2],)), ("told", "short", ((0, (), 1),))):
            self.raised(Unfit, claim)
        for claim in (("alike", 3, WIDE, ()), ("alike", 9, (), WIDE), ("out", "still", (OLD,) * 11, 3), ("out", "short", (LIE,) * 12, 0),
                      ("mirrors", "still", (OLD,) * 8, 3), ("mirrors", "growing", (LIE,) * 8, 0), ("mirrors", "short", (OLD,) * 12, 12)):
            self.raised(TooMany, claim)

    def test_within_bounds(self):
        for claim, so in ((("alike", 2, WIDE, ()), True), (("out", "still", (OLD,) * 10, 0), True), (("mirrors", "still", (OLD,) * 7, 1), True),
                          (("mirrors", "still", (LIE,) * 7, 7), False), (("told", "short", (OLD,) * 12), True), (("ordered", (OLD,) * 12), True),
                          (("ranked", "still", (OLD,) * 12), True), (("woven", "still", (OLD,) * 12, 0, (("a", 2),)), False)):
            self.assertIs(is_so(claim), so, claim)
            self.assertIs(shows(claim, paper(claim)), so)

    def test_the_first_that_raises_decides(self):
        fine, none, many = ("told", "still", (OLD,)), ("sold",), ("out", "still", (OLD,) * 11, 0)
        for function in (not_so, words_so):
            for claims, kind in (((fine, none, many), NoWord), ((fine, many, none), TooMany), ((many, ()), TooMany), (((), many), Unfit),
                                 ((("told", "still", (OLD, NEW)), fine, ()), Unfit)):
                with self.assertRaises(kind):
                    function(claims)

    def test_no_paper_and_cannot_are_not_raised(self):
        for claim in (("mirrors", "still", (LIE,), 3), ("ranked", "still", (LIE,)), ("ordered", (LIE,)), ("woven", "still", (), 0, (("z", 1),)),
                      ("come", "still", (LIE,), 0, (), ()), ("told", "still", (LIE,))):
            for function, given in self.calls(claim):
                self.assertEqual(outcome(function, *given)[0], "gave")
            self.assertIs(is_so(claim), False)
        self.assertTrue(row_ok(OLD))


if __name__ == "__main__":
    unittest.main()
