"""[22]: texts.py, there and back, and texts that are none by one flaw each."""

import re
import unittest

from helper import Dice, outcome, same
from lockstold.errors import BadText
from lockstold.texts import lock_text, read_lock, read_shelf, read_telling, read_wish, shelf_text, telling_text, wish_text

LONG = "abcdefghijkl"
SHELF = ((("app", 1), (("lib", (1, 2)), ("zip", (0,))), 0, None), (("lib", 2), (), 3, 5))
SHELF_LINES = ["release app:1 0 -", "let lib:1,2", "let zip:0", "release lib:2 3 5"]
ROWS = ((4, (("lib", (1, 2)), ("app", (1,))), (("app", 1), ("lib", 2))), (0, (), ()), (7, (("app", (9,)),), None))
ROW_LINES = ["row 4 lib:1,2 app:1 -> app:1 lib:2", "row 0 ->", "row 7 app:9 -> none"]
NAME, NUMBER = "[a-z]{1,12}", "(?:0|[1-9][0-9]*)"
# Words that are no number, no version word, no lot word.
NUMBERS = ["", "00", "01", "-1", "+1", "1.", "a", "1a", "1,2", " ", "1 ", "\u00b2", "\u0661", "1_0", "0x1", "none", "->"]
RELEASES = ["", ":", "a", "a:", ":1", "a:0", "a:01", "a:-1", "a:1,2", "a::1", "a:1:2", "A:1", "a1:1", "a b:1", LONG + "m:1", "a:b", "a:-", "a: 1",
            "\u00e9:1", "a:\u00b2", "1:a"]
LOTS = ["", ":", "a", "a:", ":1", "a:,", "a:1,", "a:,1", "a:2,1", "a:1,1", "a:01", "a:1,02", "a:1, 2", "a:1;2", "a:-1", "a::1", "A:1", LONG + "m:1",
        "a:1:2", "a:0,1,b"]


class Case(unittest.TestCase):

    def bad(self, function, text, line):
        with self.assertRaises(BadText, msg=repr(text)) as caught:
            function(text)
        self.assertEqual(caught.exception.line, line, repr(text))

    def bad_line(self, function, ahead, line):
        """line is the first bad one behind the lines ahead, whatever comes behind it."""
        for behind in ([], ["rubbish"], ahead[:1]):
            text = "\n".join(ahead + [line] + behind)
            if text != "":
                self.bad(function, text, len(ahead))


class ThereAndBackTest(unittest.TestCase):

    def check(self, write, read, value, pattern):
        text = write(value)
        self.assertIs(type(text), str)
        self.assertRegex(text, pattern)
        self.assertTrue(same(read(text), value), text)
        self.assertEqual(write(read(text)), text)

    def test_shelves(self):
        dice = Dice(221)
        line = "(release %s:%s %s (-|%s)|let %s:%s(,%s)*)" % ((NAME,) + (NUMBER,) * 3 + (NAME,) + (NUMBER,) * 2)
        for at in range(200):
            shelf = dice.shelf(("a", LONG, "b")[:dice.pick((1, 2, 3))]) if at % 2 else dice.strict_shelf(("a", "b", "c", "d"), 3, 9, None)
            self.check(shelf_text, read_shelf, shelf, r"\A(%s(\n%s)*)?\Z" % (line, line))

    def test_locks_and_wishes(self):
        dice = Dice(222)
        for _ in range(200):
            self.check(lock_text, read_lock, dice.lock(("a", "b", "c", LONG), 10 ** 6), r"\Alock( %s:%s)*\Z" % (NAME, NUMBER))
            self.check(wish_text, read_wish, dice.wish(("a", LONG, "b"), 12), r"\Awish( %s:%s(,%s)*)*\Z" % (NAME, NUMBER, NUMBER))

    def test_tellings(self):
        dice = Dice(223)
        row = "row %s( %s:%s(,%s)*)* ->(| none|( %s:%s)*)" % (NUMBER, NAME, NUMBER, NUMBER, NAME, NUMBER)
        for _ in range(200):
            telling = dice.telling(("a", "b", LONG), rows=8, days=20, lies=0.5)
            self.check(telling_text, read_telling, telling, r"\A(%s(\n%s)*)?\Z" % (row, row))

    def test_by_hand(self):
        self.assertEqual((shelf_text(SHELF), telling_text(ROWS)), ("\n".join(SHELF_LINES), "\n".join(ROW_LINES)))
        self.assertEqual((read_shelf("\n".join(SHELF_LINES)), read_telling("\n".join(ROW_LINES))), (SHELF, ROWS))
        self.assertEqual([own("") for own in (read_shelf, read_telling)], [(), ()])
        self.assertEqual([shelf_text(()), telling_text(()), lock_text(()), wish_text(())], ["", "", "lock", "wish"])
        self.assertEqual((read_lock("lock"), read_wish("wish"), read_lock("lock a:1"), read_wish("wish b:3 a:1,10,1000000")),
                         ((), (), (("a", 1),), (("b", (3,)), ("a", (1, 10, 10 ** 6)))))
        self.assertEqual(read_telling("row 3 -> none"), ((3, (), None),))
        # A NAME may be called none, or as the first word of a line.
        odd = ((1, (("none", (1,)), ("row", (2,))), (("lock", 1), ("none", 1))),)
        self.assertEqual((telling_text(odd), read_telling("row 1 none:1 row:2 -> lock:1 none:1")), ("row 1 none:1 row:2 -> lock:1 none:1", odd))

    def test_lists_are_written_alike(self):
        self.assertEqual(shelf_text([[["app", 1], [["lib", [1, 2]]], 0, None]]), "release app:1 0 -\nlet lib:1,2")
        self.assertEqual(telling_text([[4, [["lib", [1]]], [["lib", 1]]], [0, [], None]]), "row 4 lib:1 -> lib:1\nrow 0 -> none")
        self.assertEqual((lock_text([["a", 1]]), wish_text([["a", [1, 3]]])), ("lock a:1", "wish a:1,3"))

    def test_forty_lines(self):
        shelf = tuple((("a", at), (), 0, None) for at in range(1, 41))
        self.assertEqual(read_shelf(shelf_text(shelf)), shelf)
        rows = tuple((at, (), ()) for at in range(40))
        self.assertEqual(read_telling(telling_text(rows)), rows)


class BadShelvesTest(Case):

    def test_bad_words(self):
        for ahead in ([], SHELF_LINES[:1], SHELF_LINES[:3]):
            for word in RELEASES:
                self.bad_line(read_shelf, ahead, "release " + word + " 0 -")
            for word in NUMBERS + ["-"]:
                self.bad_line(read_shelf, ahead, "release z:1 " + word + " -")
            for word in NUMBERS:
                self.bad_line(read_shelf, ahead, "release z:1 0 " + word)
        for word in LOTS:
            self.bad_line(read_shelf, SHELF_LINES, "let " + word)
            self.bad_line(read_shelf, SHELF_LINES[:1], "let " + word)

    def test_bad_lines(self):
        for ahead in ([], SHELF_LINES[:1], SHELF_LINES):
            for line in ("", " ", "release", "release z:1", "release z:1 0", "release z:1 0 - ", "release z:1 0 - 1", " release z:1 0 -",
                         "release  z:1 0 -", "RELEASE z:1 0 -", "release\tz:1 0 -", "let", "let zz:1 zz:2", " let zz:1", "let zz:1 ", "row 0 ->",
                         "lock", "releases z:1 0 -", "release z:1 3 2", "release z:1 1 0"):
                self.bad_line(read_shelf, ahead, line)

    def test_beside_those_ahead(self):
        self.bad_line(read_shelf, [], "let lib:1")
        for line in ("release app:1 0 -", "release ap:7 0 -", "release app:1 9 9"):
            self.bad_line(read_shelf, SHELF_LINES[:2], line)
        for line in ("release lib:2 0 -", "release lib:1 0 -", "release app:9 0 -", "release a:1 0 -"):
            self.bad_line(read_shelf, SHELF_LINES, line)
        for line in ("let lib:1", "let lib:3", "let a:1", "let app:1", "let app:0"):
            self.bad_line(read_shelf, SHELF_LINES[:2], line)
        self.bad_line(read_shelf, SHELF_LINES, "let lib:0")
        # The NAMES of each RELEASE ascend for themselves; VERSIONS ascend as numbers.
        self.assertEqual(len(read_shelf("release a:9 0 -\nlet c:1\nrelease a:10 3 3\nlet b:0\nlet c:0")), 2)
        self.bad(read_shelf, "release a:10 0 -\nrelease a:9 0 -", 1)

    def test_line_feeds(self):
        for text, line in (("\n", 0), ("release a:1 0 -\n", 1), ("release a:1 0 -\n\nrelease b:1 0 -", 1), ("\nrelease a:1 0 -", 0),
                           ("release a:1 0 -\r\nrelease b:1 0 -", 0), ("release a:1 0 -\vrelease b:1 0 -", 0)):
            self.bad(read_shelf, text, line)


class BadTellingsTest(Case):

    def test_bad_words(self):
        for ahead in ([], ROW_LINES[:1], ROW_LINES):
            for word in NUMBERS:
                self.bad_line(read_telling, ahead, "row " + word + " ->")
            for word in LOTS + ["a:0", "a:0,1"]:
                self.bad_line(read_telling, ahead, "row 0 " + word + " -> none")
                self.bad_line(read_telling, ahead, "row 0 z:1 " + word + " ->")
            for word in RELEASES:
                self.bad_line(read_telling, ahead, "row 0 -> " + word)

    def test_bad_lines(self):
        for ahead in ([], ROW_LINES):
            for line in ("", "row", "row 0", "row ->", "row 0 -> -> none", "row 0 none", "row 0 a:1", "row 0 -> none a:1", "row 0 -> a:1 none",
                         "row 0 -> none none", "row 0 -> ", "row 0  ->", " row 0 ->", "row 0 -> a:1 ", "row 0 >", "row 0 a:1 a:2 -> none",
                         "row 0 a:1 a:1 ->", "row 0 -> b:1 a:1", "row 0 -> a:1 a:2", "row 0 -> a:1 a:1", "rows 0 ->", "lock a:1", "row 0 a:2,1 ->",
                         "row 0 -> None", "row 0 a:1 ->a:1", "row 0 b:1 a:1 b:2 ->"):
                self.bad_line(read_telling, ahead, line)
        self.assertEqual(len(read_telling("row 0 b:1 a:1 ->\nrow 0 ->")), 2)
        for text, line in (("\n", 0), ("row 0 ->\n", 1), ("row 0 ->\n\n", 1), ("\nrow 0 ->", 0)):
            self.bad(read_telling, text, line)


class BadLocksAndWishesTest(Case):

    def test_bad_locks(self):
        for line in ["", " ", "lock ", "lock  a:1", " lock", "locks a:1", "wish a:1", "a:1", "lock a:1 ", "lock b:1 a:1", "lock a:1 a:1",
                     "lock a:1 a:2", "Lock a:1", "lock none"] + ["lock " + word for word in RELEASES] + ["lock a:1 " + word for word in RELEASES]:
            for behind in ("", "\n", "\nlock", "\nrubbish\n"):
                self.bad(read_lock, line + behind, 0)

    def test_bad_wishes(self):
        for line in ["", " ", "wish ", "wish  a:1", " wish", "lock a:1", "a:1", "wish a:1 ", "wish a:1 b:1 a:2", "wish a:1 a:1", "wish a:0",
                     "wish a:0,1"] + ["wish " + word for word in LOTS] + ["wish z:1 " + word for word in LOTS]:
            for behind in ("", "\n", "\nwish", "\nrubbish\n"):
                self.bad(read_wish, line + behind, 0)

    def test_more_lines(self):
        for function, line in ((read_lock, "lock"), (read_lock, "lock a:1 b:2"), (read_wish, "wish"), (read_wish, "wish b:1,2 a:1")):
            for behind in ("\n", "\n\n", "\n" + line, "\nrubbish", "\n" + line + "\n"):
                self.bad(function, line + behind, 1)


class AnyTextTest(unittest.TestCase):

    def test_what_is_read_has_just_this_text(self):
        # Each text with one sign more, less or another one is told no more, or is the text of what is read.
        pairs = [(shelf_text, read_shelf, "\n".join(SHELF_LINES)), (telling_text, read_telling, "\n".join(ROW_LINES)),
                 (lock_text, read_lock, "lock app:1 lib:20"), (wish_text, read_wish, "wish lib:1,20 app:3")]
        many = 0
        for write, read, text in pairs:
            for at in range(len(text) + 1):
                for sign in "ab:,- \n019>":
                    for other in (text[:at] + sign + text[at:], text[:at] + sign + text[at + 1:], text[:at] + text[at + 1:]):
                        kind, found, *_ = outcome(read, other)
                        if kind == "gave":
                            self.assertEqual(write(found), other)
                            many += 1
                        else:
                            self.assertEqual(found, "BadText")
        self.assertGreater(many, 50)

    def test_the_line_that_is_told_is_the_first_bad_one(self):
        for write, read, lines in ((shelf_text, read_shelf, SHELF_LINES), (telling_text, read_telling, ROW_LINES)):
            for at in range(len(lines)):
                self.assertEqual(outcome(read, "\n".join(lines[:at] + [lines[at] + "!"] + lines[at + 1:])), ("raised", "BadText", {"line": at}))
        self.assertIsNone(re.search("[^ -~\n]", shelf_text(SHELF) + telling_text(ROWS)))


if __name__ == "__main__":
    unittest.main()
