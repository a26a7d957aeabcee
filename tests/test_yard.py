"""[23]: yard.py, beside a plain play of EDITS, undone and put back, refused ones too."""

import copy
import itertools
import unittest

from helper import SHOPS, Dice, listed, outcome, plain_has, plain_tight, same
from lockstold.errors import CanNot, NoRow, NothingDone, TooMany
from lockstold.yard import Yard
from papers import leaving_ok

LONE, BOTH = (("app", 1),), (("app", 1), ("lib", 2))
TELL = ("tell", 3, (("app", (1,)),), LONE)
LIE = ("tell", 0, (("app", (2,)),), LONE)


class PlainYard:
    """The same, reckoned from the whole line each time."""

    def __init__(self, shop):
        self.first, self.line, self.undone = shop, [], []

    def held(self):
        """The ROWS and the SHOP; None if an EDIT has no ROW."""
        rows, shop = [], self.first
        for edit in self.line:
            if edit[0] == "shop":
                shop = edit[1]
            elif edit[0] == "tell":
                rows.append(edit[1:])
            elif not 0 <= edit[1] < len(rows):
                return None
            elif edit[0] == "drop":
                del rows[edit[1]]
            elif edit[0] == "shift":
                rows[edit[1]] = (edit[2],) + rows[edit[1]][1:]
            else:
                rows[edit[1]] = rows[edit[1]][:2] + (edit[2],)
        return tuple(rows), shop

    def do(self, edit):
        self.line.append(edit)
        if self.held() is None:
            self.line.pop()
            return False
        self.undone = []
        return True


def made_up_edit(dice, many):
    names, number = ("a", "b"), dice.rolls.randint(-1, many)
    wish = dice.wish(dice.rolls.sample(names, dice.pick((0, 1, 1, 2))), 2)
    answer = dice.pick((None, dice.lock(names, 2), tuple(sorted((name, own[0]) for name, own in wish))))
    if many > 5 and dice.rolls.random() < 0.6:
        return ("drop", dice.rolls.randint(0, many - 1))
    return dice.pick((("tell", dice.rolls.randint(0, 3), wish, answer),) * 3 + (("drop", number), ("shift", number, dice.rolls.randint(0, 3)),
                                                                                ("mend", number, answer), ("shop", dice.pick(SHOPS))))


class YardTest(unittest.TestCase):

    def check_state(self, yard, plain):
        rows, shop = plain.held()
        self.assertTrue(same(yard.telling(), rows))
        self.assertEqual((yard.shop(), len(yard), yard.edits()), (shop, len(plain.line), plain.line))

    def check_asked(self, yard, plain, dice, seen):
        rows, shop = plain.held()
        can = plain_has(rows, shop)
        self.assertIs(yard.can_be(), can)
        self.assertEqual(outcome(yard.tight), ("gave", plain_tight(rows, shop)) if can else ("raised", "CanNot", {}))
        sets = itertools.chain(*[itertools.combinations(range(len(rows)), many) for many in range(len(rows) + 1)])
        self.assertEqual(yard.rows_out(), len(next(own for own in sets if leaving_ok(rows, shop, own))))
        _, day, wish, answer = next(own for own in iter(lambda: made_up_edit(dice, 0), None) if own[0] == "tell")
        may = plain_has(rows + ((day, wish, answer),), shop)
        self.assertIs(yard.may_tell(day, wish, answer), may)
        self.assertIs(yard.may_tell(day, listed(wish), listed(answer)), may)
        seen.add((can, may))
        self.check_state(yard, plain)

    def test_beside_a_plain_play(self):
        dice, seen, done = Dice(231), set(), set()
        for _ in range(40):
            shop = dice.pick(SHOPS)
            yard, plain = Yard(shop), PlainYard(shop)
            for _ in range(dice.rolls.randint(1, 40)):
                word = dice.pick(("do", "do", "do", "do", "undo", "undo", "redo"))
                if word == "do":
                    edit = made_up_edit(dice, len(plain.held()[0]))
                    fit = plain.do(edit)
                    self.assertEqual(outcome(yard.do, dice.pick((edit, listed(edit)))),
                                     ("gave", None) if fit else ("raised", "NoRow", {"number": edit[1]}))
                    done.add((edit[0], fit))
                else:
                    ahead, behind = (plain.line, plain.undone) if word == "undo" else (plain.undone, plain.line)
                    found = outcome(getattr(yard, word))
                    self.assertEqual(found, ("gave", ahead[-1]) if ahead else ("raised", "NothingDone", {}))
                    if ahead:
                        behind.append(ahead.pop())
                    done.add((word, found[0]))
                self.check_state(yard, plain)
            self.check_asked(yard, plain, dice, seen)
        self.assertEqual(seen, {(True, True), (True, False), (False, False)})
        wanted = {(word, fit) for word in ("drop", "shift", "mend") for fit in (True, False)} | {("tell", True), ("shop", True)}
        self.assertEqual(done, wanted | {(word, kind) for word in ("undo", "redo") for kind in ("gave", "raised")})

    def test_by_hand(self):
        yard = Yard("still")
        self.assertEqual((yard.telling(), yard.shop(), yard.edits(), len(yard)), ((), "still", [], 0))
        self.assertEqual((yard.can_be(), yard.tight(), yard.rows_out(), yard.may_tell(0, (), ()), yard.may_tell(0, (), None)), (True, (), 0, True, False))
        for edit in (TELL, ("tell", 5, (("lib", (1, 2)),), BOTH), ("shift", 1, 0), ("mend", 0, None), ("drop", 1), ("shop", "short")):
            self.assertIsNone(yard.do(edit))
        self.assertEqual((yard.telling(), yard.shop()), (((3, (("app", (1,)),), None),), "short"))
        self.assertEqual([yard.undo(), yard.undo(), yard.telling(), yard.shop()],
                         [("shop", "short"), ("drop", 1), ((3, (("app", (1,)),), None), (0, (("lib", (1, 2)),), BOTH)), "still"])
        self.assertEqual((yard.redo(), len(yard), yard.telling()), (("drop", 1), 5, ((3, (("app", (1,)),), None),)))

    def test_what_was_undone_is_put_back_just_so(self):
        yard = Yard("growing")
        edits = [TELL, LIE, ("drop", 0), ("mend", 0, None), ("shop", "still"), ("shift", 0, 9)]
        held = [((), "growing")]
        for edit in edits:
            yard.do(edit)
            held.append((yard.telling(), yard.shop()))
        self.assertEqual([yard.undo() for _ in edits], edits[::-1])
        self.assertEqual((yard.telling(), yard.shop()), held[0])
        for edit, own in zip(edits, held[1:]):
            self.assertEqual((yard.redo(), (yard.telling(), yard.shop())), (edit, own))
        with self.assertRaises(NothingDone):
            yard.redo()

    def test_what_drops_what_was_undone(self):
        yard = Yard("still")
        yard.do(TELL)
        yard.do(LIE)
        yard.undo()
        # One that is refused does not drop it, nor one that is put back.
        for edit in (("drop", 1), ("shift", -1, 0), ("mend", 9, None)):
            with self.assertRaises(NoRow):
                yard.do(edit)
        yard.undo()
        self.assertEqual((yard.redo(), yard.redo()), (TELL, LIE))
        yard.undo()
        # One that leaves all as it was does.
        yard.do(("shop", "still"))
        with self.assertRaises(NothingDone):
            yard.redo()
        self.assertEqual((len(yard), yard.edits()), (2, [TELL, ("shop", "still")]))

    def test_twins(self):
        yard = Yard("still")
        for edit in (TELL, ("shop", "short"), LIE):
            yard.do(edit)
        yard.undo()
        other = yard.twin()
        self.assertEqual((other.edits(), other.shop(), other.telling()), (yard.edits(), "short", yard.telling()))
        self.assertTrue(yard == other)
        with self.assertRaises(NothingDone):
            other.redo()
        other.do(LIE)
        self.assertEqual((len(yard), len(other), yard == other), (2, 3, False))
        self.assertEqual(yard.redo(), LIE)
        self.assertTrue(yard == other)
        other.undo()
        other.undo()
        other.undo()
        self.assertEqual((other.shop(), len(yard)), ("still", 3))
        self.assertTrue(Yard("short").twin() == Yard("short"))

    def test_equal_exactly_if_first_shops_and_lines_are(self):
        one, other, third = Yard("still"), Yard("still"), Yard("short")
        self.assertTrue(one == other and not one != other and one != third)
        one.do(TELL)
        self.assertFalse(one == other)
        other.do(listed(TELL))
        self.assertTrue(one == other)
        # What is held alone does not make two equal, nor what was undone two unlike.
        other.do(("shop", "still"))
        self.assertFalse(one == other)
        other.undo()
        self.assertTrue(one == other)
        third.do(("shop", "still"))
        third.do(TELL)
        self.assertFalse(one == third)
        for thing in (None, 1, "still", [TELL], (TELL,), one.telling(), one.edits(), object()):
            self.assertFalse(one == thing)
            self.assertFalse(thing == one)

    def test_no_iteration(self):
        yard = Yard("still")
        yard.do(TELL)
        for ask in (iter, list, tuple, sorted, lambda own: [each for each in own], lambda own: TELL in own):
            with self.assertRaises(TypeError):
                ask(yard)

    def test_arguments_are_copied_and_lists_are_new(self):
        yard, edit = Yard("still"), listed(TELL)
        before = copy.deepcopy(edit)
        yard.do(edit)
        self.assertEqual(edit, before)
        edit[2].append(["z", [1]])
        edit[3][0][1] = 9
        edit.append(5)
        self.assertTrue(same(yard.edits(), [TELL]) and same(yard.telling(), (TELL[1:],)))
        found = yard.edits()
        found.append("more")
        self.assertEqual((yard.edits(), len(yard)), ([TELL], 1))
        wish, answer = [["app", [1]]], [["app", 1]]
        yard.may_tell(0, wish, answer)
        yard.may_tell(day=0, wish=wish, answer=answer)
        self.assertEqual((wish, answer, yard.edits()), ([["app", [1]]], [["app", 1]], [TELL]))
        yard.do(edit=("mend", 0, [["app", 1], ["lib", 3]]))
        self.assertTrue(same(yard.undo(), ("mend", 0, (("app", 1), ("lib", 3)))))

    def test_errors(self):
        yard = Yard("still")
        for function in (yard.undo, yard.redo):
            with self.assertRaises(NothingDone):
                function()
        for edit in (("drop", 0), ("shift", 0, 3), ("mend", 0, None), ("drop", -1), ("mend", 10 ** 9, ())):
            with self.assertRaises(NoRow) as caught:
                yard.do(edit)
            self.assertEqual(caught.exception.number, edit[1])
        self.assertEqual((len(yard), yard.telling()), (0, ()))
        yard.do(LIE)
        with self.assertRaises(CanNot):
            yard.tight()
        self.assertEqual((yard.can_be(), yard.rows_out(), yard.may_tell(0, (), ())), (False, 1, False))
        for _ in range(9):
            yard.do(LIE)
        self.assertEqual(yard.rows_out(), 10)
        yard.do(LIE)
        with self.assertRaises(TooMany):
            yard.rows_out()
        with self.assertRaises(CanNot):
            yard.tight()
        self.assertEqual((yard.can_be(), len(yard), yard.undo(), yard.rows_out()), (False, 11, LIE, 10))

    def test_from_shop_to_shop(self):
        dice, seen = Dice(232), set()
        for _ in range(40):
            yard = Yard("still")
            for row in dice.telling(("a", "b"), rows=5, lies=0.5):
                yard.do(("tell",) + row)
            many = []
            for shop in SHOPS:
                yard.do(("shop", shop))
                many.append(yard.rows_out())
                self.assertEqual((yard.can_be(), outcome(yard.tight)[0] == "gave"), (many[-1] == 0,) * 2)
            self.assertEqual(many, sorted(many, reverse=True))
            seen.add(many[0] - many[2])
        self.assertTrue({0, 1} <= seen)


if __name__ == "__main__":
    unittest.main()
