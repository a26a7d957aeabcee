"""[10]: tellings.py, beside plain reckonings over all ROWS."""

import itertools
import unittest

from helper import (Dice, days_that_matter, plain_answer, plain_locks, plain_names, plain_state, telling_ok,
                    wishes_over)
from lockstold.tellings import (each_once, first_told, first_untold, is_row, is_telling, last_told, merged, names_told,
                                on_days, pairs_told, releases_told, row_of, rows_with, telling_of, tells, told_by)

RELEASES = [("a", 1), ("a", 2), ("b", 1), ("b", 2), ("c", 1), ("c", 2), ("z", 1)]
LONG = "abcdefghijkl"


def made_up(many=60, seed=31, rows=6):
    dice = Dice(seed)
    return [()] + [dice.telling(rows=rows) for _ in range(many)]


class ToldTest(unittest.TestCase):

    def test_names_and_releases(self):
        for telling in made_up():
            self.assertEqual(names_told(telling), tuple(plain_names(telling)))
            releases = {own for lock in plain_locks(telling) for own in lock}
            self.assertEqual(releases_told(telling), tuple(sorted(releases)))

    def test_what_is_only_wished_is_not_told(self):
        telling = ((0, (("a", (1, 2)), ("b", (1,))), None), (1, (("c", (1,)),), ()))
        self.assertEqual((names_told(telling), releases_told(telling), pairs_told(telling)), ((), (), ()))

    def test_by_which_rows(self):
        for telling in made_up():
            for release in RELEASES:
                rows = [at for at, lock in enumerate(plain_locks(telling)) if release in lock]
                self.assertEqual(told_by(telling, release), tuple(rows))
                days = [telling[at][0] for at in rows]
                self.assertEqual(first_told(telling, release), min(days) if days else None)
                self.assertEqual(last_told(telling, release), max(days) if days else None)

    def test_pairs(self):
        for telling in made_up():
            names = set(plain_names(telling))
            wanted = {(own, name, plain_state(lock, name)) for lock in plain_locks(telling) for own in lock
                      for name in names - {own[0]}}
            self.assertEqual(pairs_told(telling), tuple(sorted(wanted)))

    def test_rows_with_pairs_told_or_not(self):
        for telling in made_up(30):
            for release, name, state in itertools.product(RELEASES, ("a", "b", "c", "z", "new"), (0, 1, 2, 3)):
                if name != release[0]:
                    wanted = [at for at, lock in enumerate(plain_locks(telling))
                              if release in lock and plain_state(lock, name) == state]
                    self.assertEqual(rows_with(telling, (release, name, state)), tuple(wanted))
                    self.assertTrue(set(wanted) <= set(told_by(telling, release)))

    def test_great_values(self):
        lock = ((LONG, 10 ** 6), ("z", 1))
        telling = ((10 ** 6, ((LONG, (1, 10 ** 6)),), lock), (3, (), None), (0, (("z", (1,)),), lock[1:])) * 4
        self.assertEqual(told_by(telling, (LONG, 10 ** 6)), (0, 3, 6, 9))
        self.assertEqual((first_told(telling, ("z", 1)), last_told(telling, ("z", 1))), (0, 10 ** 6))
        self.assertEqual(rows_with(telling, (("z", 1), LONG, 0)), (2, 5, 8, 11))
        self.assertEqual(pairs_told(telling), (((LONG, 10 ** 6), "z", 1), (("z", 1), LONG, 0), (("z", 1), LONG, 10 ** 6)))


class TellsTest(unittest.TestCase):

    def setUp(self):
        dice = Dice(32)
        self.shelves = [()] + [dice.shelf() for _ in range(25)]
        self.wishes = wishes_over({"a": [1, 2], "b": [1], "c": [2]}, 2)[::3] + [(("z", (1,)),)]

    def test_rows_of_answers(self):
        for shelf in self.shelves:
            days = days_that_matter(shelf)[:7]
            asked = [(day, wish) for day, wish in zip(itertools.cycle(days), self.wishes)]
            wanted = tuple((day, wish, plain_answer(shelf, wish, day)) for day, wish in asked)
            self.assertEqual(telling_of(shelf, asked), wanted)
            self.assertEqual(row_of(shelf, *asked[-1]), wanted[-1])
            self.assertTrue(telling_ok(wanted) and tells(shelf, wanted))
            self.assertIsNone(first_untold(shelf, wanted))
        self.assertEqual((telling_of((), ()), tells((), ()), first_untold((), ())), ((), True, None))

    def test_what_is_not_told(self):
        dice, seen = Dice(33), set()
        for shelf in self.shelves:
            for _ in range(12):
                telling = dice.telling(rows=3, lies=0.3) + telling_of(shelf, ((1, dice.wish()),))
                wrong = [at for at, (day, wish, answer) in enumerate(telling) if plain_answer(shelf, wish, day) != answer]
                self.assertEqual(first_untold(shelf, telling), wrong[0] if wrong else None)
                self.assertIs(tells(shelf, telling), not wrong)
                seen.add(bool(wrong))
        self.assertEqual(seen, {True, False})

    def test_no_answer_and_an_empty_one_are_unlike(self):
        self.assertEqual(row_of((), 3, ()), (3, (), ()))
        self.assertEqual(row_of((), 3, (("a", (1,)),)), (3, (("a", (1,)),), None))
        self.assertIs(tells((), ((0, (), None),)), False)
        self.assertIs(tells((), ((0, (("a", (1,)),), ()),)), False)

    def test_the_order_of_rows_and_rows_twice_do_not_matter(self):
        dice = Dice(34)
        for shelf in self.shelves:
            for telling in (telling_of(shelf, [(own, dice.wish()) for own in range(3)]), dice.telling(rows=3)):
                for own in itertools.permutations(telling):
                    self.assertEqual(tells(shelf, own), tells(shelf, telling))
                self.assertEqual(tells(shelf, telling + telling), tells(shelf, telling))

    def test_no_bound_on_the_locks_here(self):
        wide = tuple(((name, version), (), 0, None) for name in "abcdef" for version in (1, 2, 3, 4))
        wish = (("f", (1, 3)), ("a", (2, 9)), ("c", (4,)))
        wanted = (5, wish, (("a", 2), ("c", 4), ("f", 3)))
        self.assertEqual(row_of(wide, 5, wish), wanted)
        self.assertEqual((tells(wide, (wanted,)), first_untold(wide, (wanted, (5, wish, None)))), (True, 1))
        self.assertEqual(telling_of(wide, ((5, wish),)), (wanted,))


class ChangedTellingsTest(unittest.TestCase):

    def test_on_days(self):
        for telling in made_up():
            for since, until in itertools.product(range(5), range(5)):
                wanted = [row for row in telling if row[0] in range(since, until + 1)]
                self.assertEqual(on_days(telling, since, until), tuple(wanted))
        self.assertEqual(on_days(((10 ** 6, (), ()),), 10 ** 6, 10 ** 6), ((10 ** 6, (), ()),))

    def test_merged(self):
        for one, other in zip(made_up(), made_up(60, 35)):
            found = merged(one, other)
            self.assertEqual(len(found), len(one) + len(other))
            wanted = []
            for day in range(5):
                wanted += [row for row in one if row[0] == day] + [row for row in other if row[0] == day]
            self.assertEqual(found, tuple(wanted))

    def test_of_one_day_those_of_one_come_first(self):
        one, other = ((2, (), ()), (0, (), None), (2, (), None)), ((2, (), (("a", 1),)), (1, (), ()), (0, (), ()))
        self.assertEqual(merged(one, other), (one[1], other[2], other[1], one[0], one[2], other[0]))

    def test_a_shelf_tells_merged_if_it_tells_both(self):
        dice, seen = Dice(36), set()
        for _ in range(120):
            shelf = dice.shelf(("a", "b"))
            parts = [dice.pick((telling_of(shelf, [(own, dice.wish(("a", "b"))) for own in (3, 1)]),
                                dice.telling(("a", "b"), rows=1))) for _ in range(2)]
            both = tells(shelf, parts[0]) and tells(shelf, parts[1])
            self.assertIs(tells(shelf, merged(*parts)), both)
            seen.add(both)
        self.assertEqual(seen, {True, False})

    def test_each_once(self):
        for telling in made_up(40):
            dice = Dice(len(telling))
            more = tuple(dice.pick(telling) for _ in range(9)) if telling else ()
            self.assertEqual(each_once(telling + more), tuple(dict.fromkeys(telling)))
        self.assertEqual(each_once(((1, (), ()), (0, (), ()), (1, (), None), (1, (), ()))),
                         ((1, (), ()), (0, (), ()), (1, (), None)))


class JudgesTest(unittest.TestCase):

    def test_one_flaw_each(self):
        row = (3, (("a", (1, 2)), ("b", (1,))), (("a", 2), ("b", 1)))
        for fine in (row, row[:2] + (None,), row[:2] + ((),), (0, (), ()), (10 ** 6, row[1], row[2])):
            self.assertIs(is_row(fine), True)
            self.assertIs(is_telling((row, fine, fine)), True)
            self.assertIs(is_telling([row, fine]), False)
            self.assertIs(is_telling(fine), False)
        for flawed in (list(row), row[:2], row + (None,), (-1,) + row[1:], (True,) + row[1:], ("3",) + row[1:],
                       (3, list(row[1]), row[2]), (3, (("a", (1,)), ("a", (2,))), None), (3, (("a", ()),), None),
                       (3, (("a", (2, 1)),), None), (3, (("a", (0,)),), None), row[:2] + (row[2][::-1],),
                       row[:2] + (list(row[2]),), row[:2] + (False,), row[:2] + ((("a", 0),),), row[:2] + (0,),
                       (3, None, None), (None, (), None), row[:2] + ((("a", True),),)):
            self.assertIs(is_row(flawed), False, flawed)
            self.assertIs(is_telling((row, flawed)), False, flawed)
        self.assertIs(is_telling(()), True)
        self.assertIs(is_row(()), False)


if __name__ == "__main__":
    unittest.main()
