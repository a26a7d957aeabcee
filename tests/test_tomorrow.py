"""[15]: tomorrow.py, beside a slow search of all SHELVES of a small universe, and plain reckonings."""

import itertools
import unittest

from helper import (SHOPS, Dice, against_ok, locks_over, outcome, plain_better, plain_has, plain_names, plain_state,
                    telling_ok, told_versions)
from histories import WISHES, all_histories, answer_among, history_tells, made_up_telling
from lockstold.errors import CanNot, NoPaper, TooMany
from lockstold.told import has_shelf, tight_shelf
from lockstold.tomorrow import (best_question, can_answer, is_settled, is_why_not_answer, narrowed_by, parting_wishes,
                                possible_answers, possible_states, sure_answer, sure_states, told_next, why_not_answer)
from lockstold.tellings import row_of

TOLD = ((0, (("a", (1, 2)),), (("a", 2), ("b", 1))), (0, (("b", (1, 2)),), (("b", 2),)))
ONLY, ANY_A = (("b", (1,)),), (("a", (1, 2)),)


def small(many, seed, lies=0.1):
    dice = Dice(seed)
    for _ in range(many):
        shop = dice.pick(SHOPS)
        yield shop, made_up_telling(dice, shop, dice.pick((0, 1, 2, 3)), dice.pick((0, lies))), dice.pick((0, 1, 2)), dice


def wide(many, seed):
    dice = Dice(seed)
    for _ in range(many):
        shop = dice.pick(SHOPS)
        yield shop, dice.telling(rows=4, lies=dice.pick((0, 0, 0.2)), shop=shop), dice.pick(range(5)), dice


def better_first(wish, answers):
    """answers in order, the better ones first, None last."""
    found = []
    for own in answers:
        if own is not None:
            at = sum(plain_better(wish, other, own) for other in found)
            found.insert(at, own)
    return found + [None] * (None in answers)


def plain_possible(telling, shop, day, wish):
    locks = locks_over(told_versions(telling))
    return better_first(wish, [own for own in locks + [None] if plain_has(telling + ((day, wish, own),), shop)])


class PossibleTest(unittest.TestCase):

    def test_just_the_answers_of_all_shelves_of_told_releases_that_tell(self):
        seen = set()
        for shop, telling, day, dice in small(250, 91, 0.3):
            told = {own for row in telling if row[2] for own in row[2]}
            tellers = [own for own, releases in all_histories(shop) if releases <= told and history_tells(own, telling)]
            for wish in [dice.pick(WISHES), dice.pick(WISHES)]:
                wanted = {answer_among(own[day], wish) for own in tellers}
                found = possible_answers(telling, shop, day, wish)
                self.assertEqual(found, better_first(wish, wanted), (telling, shop, day, wish))
                seen.add((shop, len(found)))
        self.assertTrue({(shop, many) for shop in SHOPS for many in (0, 1, 2)} <= seen, seen)

    def test_beside_all_locks(self):
        seen = set()
        for shop, telling, day, dice in wide(60, 92):
            wish = dice.wish(dice.pick((("a",), ("a", "b"), ("b", "c"))), 2)
            wanted = plain_possible(telling, shop, day, wish)
            self.assertEqual(possible_answers(telling, shop, day, wish), wanted)
            self.check_sure(telling, shop, day, wish, wanted)
            seen.add(len(wanted))
        self.assertTrue({0, 1, 2, 3} <= seen, seen)

    def check_sure(self, telling, shop, day, wish, wanted):
        locks = [own for own in wanted if own is not None]
        for name in ("a", "b", "c", "z"):
            states = tuple(sorted({plain_state(lock, name) for lock in locks}))
            self.assertEqual(possible_states(telling, shop, day, wish, name), states)
        sure = outcome(sure_states, telling, shop, day, wish)
        if not locks:
            self.assertEqual(sure, ("raised", "CanNot", {}))
        else:
            lone = [(name, {plain_state(lock, name) for lock in locks}) for name in plain_names(telling)]
            self.assertEqual(sure, ("gave", tuple((name, min(own)) for name, own in lone if len(own) == 1)))
        answer = outcome(sure_answer, telling, shop, day, wish)
        self.assertEqual(answer, ("gave", wanted[0]) if len(wanted) == 1 else ("raised", "CanNot", {}))

    def test_with_a_shelf_there_is_one_at_least(self):
        for shop, telling, day, dice in wide(80, 93):
            wish = dice.wish(("a", "b"), 2)
            found = possible_answers(telling, shop, day, wish)
            self.assertEqual(bool(found), has_shelf(telling, shop))
            if found:
                self.assertIn(row_of(tight_shelf(telling, shop), day, wish)[2], found)
                for own, asked, answer in telling:
                    self.assertEqual(possible_answers(telling, shop, own, asked), [answer])
                    self.assertEqual(sure_answer(telling, shop, own, asked), answer)

    def test_a_row_more_takes_away(self):
        for shop, telling, day, dice in wide(50, 94):
            wish, later = dice.wish(("a", "b"), 2), dice.wish(("b", "c"), 2)
            before = possible_answers(telling, shop, day, later)
            for given in possible_answers(telling, shop, day, wish):
                more = told_next(telling, shop, day, wish, given)
                behind = possible_answers(more, shop, day, later)
                self.assertTrue(set(behind) <= set(before))
                wanted = [own for own in before if own not in behind]
                self.assertEqual(narrowed_by(telling, shop, day, wish, given, later), wanted)

    def test_with_releases_that_are_told_first(self):
        given = (("b", 3), ("c", 1))
        wish, later = (("b", (3,)),), (("a", (1, 2)),)
        self.assertIs(can_answer(TOLD, "still", 0, wish, given), True)
        self.assertEqual(possible_answers(TOLD, "still", 0, wish), [None])
        self.assertEqual(narrowed_by(TOLD, "still", 0, wish, given, later), [])
        self.assertEqual(narrowed_by(TOLD, "still", 0, wish, given, wish), [None])

    def test_of_no_rows(self):
        for shop in SHOPS:
            self.assertEqual(possible_answers((), shop, 5, ()), [()])
            self.assertEqual(possible_answers((), shop, 5, ANY_A), [None])
            self.assertEqual((sure_answer((), shop, 5, ANY_A), sure_states((), shop, 5, ())), (None, ()))
            self.assertEqual(possible_states((), shop, 5, ANY_A, "a"), ())
            self.assertIs(can_answer((), shop, 0, ANY_A, (("a", 2), ("z", 10 ** 6))), True)

    def test_great_values(self):
        lock = (("abcdefghijkl", 10 ** 6), ("b", 10 ** 6))
        telling = ((10 ** 6, (("b", (1, 10 ** 6)),), lock),) * 12
        wish = (("abcdefghijkl", (10 ** 6,)),)
        self.assertEqual(possible_answers(telling, "still", 3, wish), [lock[:1], lock])
        self.assertEqual(possible_answers(telling, "growing", 10 ** 6 - 1, wish), [lock[:1], lock, None])
        self.assertEqual(possible_states(telling, "short", 10 ** 6, wish, "b"), (0, 10 ** 6))
        self.assertEqual(sure_states(telling, "still", 3, wish), ((lock[0][0], 10 ** 6),))


class CanAnswerTest(unittest.TestCase):

    def test_beside_all_shelves(self):
        seen = set()
        for shop, telling, day, dice in small(60, 95):
            tellers = [own for own, _ in all_histories(shop) if history_tells(own, telling)]
            for wish in [dice.pick(WISHES)]:
                wanted = {answer_among(own[day], wish) for own in tellers}
                for given in locks_over({"a": (1, 2), "b": (1,)}) + [None]:
                    self.assertIs(can_answer(telling, shop, day, wish, given), given in wanted)
                    seen.add(given in wanted)
        self.assertEqual(seen, {True, False})

    def test_why_not(self):
        seen = set()
        for shop, telling, day, dice in wide(80, 96):
            wish = dice.wish(("a", "b"), 2)
            given = dice.pick((None, dice.lock(most=2), (("new", 1),), ()))
            rows = telling + ((day, wish, given),)
            can = plain_has(rows, shop)
            seen.add(can)
            self.assertIs(can_answer(telling, shop, day, wish, given), can)
            if can:
                self.assertEqual(outcome(why_not_answer, telling, shop, day, wish, given), ("raised", "NoPaper", {}))
                self.assertEqual(told_next(telling, shop, day, wish, given), rows)
            else:
                found = why_not_answer(telling, shop, day, wish, given)
                self.assertTrue(against_ok(rows, shop, found))
                self.assertIs(is_why_not_answer(telling, shop, day, wish, given, found), True)
                self.assertEqual(outcome(told_next, telling, shop, day, wish, given), ("raised", "CanNot", {}))
            for at, lock, own in itertools.product(range(len(rows) + 1), [(), given, (("b", 1),)], [(), (0,), (len(telling),)]):
                for thing in (("unmet", at), ("better", at, lock, own)):
                    self.assertIs(is_why_not_answer(telling, shop, day, wish, given, thing), against_ok(rows, shop, thing))
        self.assertEqual(seen, {True, False})

    def test_why_not_with_one_flaw(self):
        given = (TOLD, "still", 0, ANY_A, (("a", 2),))
        fine = ("better", 0, (("a", 2),), (2,))
        self.assertIs(is_why_not_answer(*given, fine), True)
        for flawed in (list(fine), fine[:3], ("better", 1) + fine[2:], ("unmet", 0), ("unmet", 2), fine[:3] + ((3,),),
                       fine[:3] + ((),), fine[:3] + ([2],), fine[:2] + ((("a", 2), ("b", 1)), (0,)), None, ()):
            self.assertIs(is_why_not_answer(*given, flawed), False, flawed)
        self.assertIs(is_why_not_answer(TOLD, "still", 0, ANY_A, (("b", 1),), ("unmet", 2)), True)

    def test_told_next_is_a_telling_of_tuples(self):
        found = told_next([list(own) for own in TOLD], "still", 3, [["b", [1]]], [["b", 1]])
        self.assertTrue(telling_ok(found))
        self.assertEqual(found, TOLD + ((3, ONLY, (("b", 1),)),))


class QuestionsTest(unittest.TestCase):

    def test_beside_all_answers(self):
        seen = set()
        for shop, telling, day, dice in wide(50, 97):
            wishes = tuple(dice.wish(("a", "b"), 2) for _ in range(dice.pick((1, 2, 4))))
            many = [len(plain_possible(telling, shop, day, wish)) for wish in wishes]
            self.assertEqual(parting_wishes(telling, shop, day, wishes), tuple(at for at, own in enumerate(many) if own > 1))
            self.assertEqual(best_question(telling, shop, day, wishes), many.index(max(many)))
            self.assertIs(is_settled(telling, shop, day, wishes), set(many) == {1})
            seen.add((set(many) == {1}, many.index(max(many)) > 0))
        self.assertEqual(len(seen), 3)

    def test_the_first_of_those_that_have_the_most(self):
        self.assertEqual(best_question(TOLD, "still", 0, ((), ANY_A)), 0)
        self.assertEqual(best_question(TOLD, "still", 0, ((), ONLY, ANY_A, ONLY)), 1)
        self.assertEqual(parting_wishes(TOLD, "still", 0, (ONLY, (), ONLY)), (0, 2))
        # Without a SHELF no WISH has an answer: none is settled.
        none = TOLD + ((0, (), None),)
        self.assertEqual((best_question(none, "still", 0, (ONLY, ())), parting_wishes(none, "still", 0, (ONLY, ())),
                          is_settled(none, "still", 0, ((),)), is_settled(TOLD, "still", 0, ((),))), (0, (), False, True))


class ErrorsTest(unittest.TestCase):

    def telling_of(self, many):
        """A TELLING of which the told RELEASES of each NAME are so many."""
        releases = [((name, version),) for name, own in many.items() for version in range(1, own + 1)]
        return tuple((0, ((own[0][0], (own[0][1],)),), own) for own in releases)

    def calls(self, telling, wish=(("a", (1,)),)):
        given = (telling, "still", 0, wish)
        return [(possible_answers, given), (possible_states, given + ("a",)), (sure_states, given), (sure_answer, given),
                (parting_wishes, given[:3] + ((wish,),)), (best_question, given[:3] + ((wish, wish),)),
                (is_settled, given[:3] + ((wish,),)), (narrowed_by, given + ((("a", 1),), wish))]

    def free(self, telling):
        given = (telling, "still", 0, (("a", (1,)),), (("a", 1),))
        return [(can_answer, given), (told_next, given), (is_why_not_answer, given + (None,)),
                (why_not_answer, given[:4] + (None,))]

    def test_not_more_than_a_hundred_locks(self):
        for many in ({"a": 9, "b": 9}, {"a": 99}, {"a": 4, "b": 4, "c": 3}, {"a": 1, "b": 1, "c": 1, "d": 1, "e": 1}):
            for function, given in self.calls(self.telling_of(many)):
                self.assertNotEqual(outcome(function, *given), ("raised", "TooMany", {}), function)
        # All told alone: nothing else is better, and all can come to a WISH that lets them.
        self.assertEqual(len(possible_answers(self.telling_of({"a": 4, "b": 4, "c": 3}), "still", 0, (("a", (1,)),))), 1)

    def test_more_than_a_hundred_locks(self):
        for many in ({"a": 100}, {"a": 4, "b": 4, "c": 4}, {"a": 9, "b": 10}, {"a": 1, "b": 1, "c": 1, "d": 1, "e": 1, "f": 3}):
            telling = self.telling_of(many)
            for rows in (telling, telling + ((0, (), None),)):
                for function, given in self.calls(rows):
                    with self.assertRaises(TooMany, msg=function.__name__):
                        function(*given)
                # Ahead of CanNot, too.
                with self.assertRaises(TooMany):
                    narrowed_by(rows, "still", 0, ANY_A, None, ())
            for function, given in self.free(telling):
                function(*given)

    def test_what_is_given_does_not_count(self):
        telling = self.telling_of({"a": 4, "b": 4, "c": 3})
        self.assertEqual(narrowed_by(telling, "still", 0, (("d", (1,)),), (("d", 1),), (("a", (1,)),)), [])

    def test_cannot(self):
        for function, given in ((sure_answer, (TOLD, "still", 0, ONLY)), (sure_answer, (TOLD + ((0, (), None),), "still", 0, ())),
                                (sure_states, (TOLD, "still", 0, (("z", (1,)),))),
                                (sure_states, (TOLD + ((0, (), None),), "still", 0, ())),
                                (told_next, (TOLD, "still", 0, ANY_A, None)),
                                (narrowed_by, (TOLD, "still", 0, ANY_A, None, ONLY)),
                                (narrowed_by, (TOLD, "still", 0, ANY_A, (("b", 1),), ONLY))):
            with self.assertRaises(CanNot, msg=function.__name__):
                function(*given)
        with self.assertRaises(NoPaper):
            why_not_answer(TOLD, "still", 0, ONLY, (("b", 1),))


if __name__ == "__main__":
    unittest.main()
