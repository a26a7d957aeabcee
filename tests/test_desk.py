"""[23]: desk.py, its replies beside the Yard's own methods; which lines are requests."""

import unittest

from helper import SHOPS, Dice, outcome, same
from lockstold.desk import is_request, last_yard, replies
from lockstold.errors import BadText
from lockstold.texts import shelf_text, telling_text
from lockstold.yard import Yard
from test_yard import made_up_edit

LONG = "abcdefghijkl"
TOLD = ("tell 1 app:1 -> app:1", "tell 4 app:1,2 -> app:2", "can", "tell 2 app:1,2 -> none", "out", "drop 2", "can 2 app:2 -> none",
        "can 5 app:2 -> none", "shelf", "drop 2")
REQUESTS = ("undo", "redo", "rows", "can", "out", "shelf", "tell 0 ->", "tell 0 -> none", "tell 999999 a:1,999999 b:2 -> a:999999",
            "can 0 ->", "can 7 b:1 a:2 -> a:2 b:1", "drop 0", "drop 999999", "shift 0 0", "shift 3 999999", "mend 0", "mend 0 none", "mend 12 a:1 b:2",
            "shop still", "shop growing", "shop short", "tell 3 " + LONG + ":1 -> none", "mend 0 none:1", "tell 0 none:1 -> none:1")
NONE = ("", " ", "undo ", " undo", "undo 1", "undone", "UNDO", "undo\n", "\nundo", "undo\nundo", "redo redo", "rows 0", "can  ", "can 0", "can yes", "can ->",
        "out 1", "shelf -", "tell", "tell 0", "tell ->", "tell 0 none", "tell -1 ->", "tell 01 ->", "tell 0 a:0 ->", "tell 0 b:1 b:2 ->",
        "tell 0 -> b:1 a:1", "tell 0 -> a:1 none", "tell 0 -> ", "tell 0  ->", "tell 1000000 ->", "tell 0 a:1000000 ->", "tell 0 -> a:1000000",
        "tell 0 a:2,1 ->", "tell 0 -> A:1", "tell 0 " + LONG + "m:1 ->", "can 1000000 ->", "drop", "drop -1", "drop 00", "drop 0 0", "drop a", "drop ",
        "drop 1000000", "drop none", "shift", "shift 0", "shift 0 0 0", "shift 0 -1", "shift 0 none", "shift -1 0", "shift 0 1000000", "shift 1000000 0",
        "mend", "mend none", "mend -1", "mend 0 ", "mend 0 a", "mend 0 a:0", "mend 0 b:1 a:1", "mend 0 a:1 none", "mend 0 none none", "mend 0 -> none",
        "mend 01 none", "mend 1000000 none", "mend 0 a:1,2", "mend 0 a:1000000", "shop", "shop big", "shop still short", "shop still ", "shop Still", "row 0 ->",
        "told 0 ->", "back 0", "edit", "can\t", "drop \u0661", "drop \u00b2", "drop 1_0", "drop +1", "lock a:1", "drop " + "9" * 5000, "9" * 5000)


def line_of(edit):
    """The request that asks for an EDIT, number below 0 aside."""
    if edit[0] == "tell":
        return "tell" + telling_text((edit[1:],))[3:]
    if edit[0] == "mend":
        return " ".join(["mend", str(edit[1])] + (["none"] if edit[2] is None else ["{}:{}".format(*own) for own in edit[2]]))
    return " ".join(str(own) for own in edit)


def plain_reply(yard, line, edit):
    """The reply to line, asked of the Yard's own methods."""
    word = line.split(" ")[0]
    asked = {"undo": yard.undo, "redo": yard.redo, "rows": lambda: len(yard.telling()), "out": yard.rows_out, "shelf": yard.tight,
             "can": yard.can_be if line == "can" else (lambda: yard.may_tell(*edit[1:]))}.get(word, lambda: yard.do(edit))
    kind, found, *_ = outcome(asked)
    if kind == "raised":
        return "refused " + found
    if word == "can":
        return "yes" if found else "no"
    if word == "shelf":
        return shelf_text(found)
    return str(found) if word in ("rows", "out") else "done"


class RequestsTest(unittest.TestCase):

    def test_which_lines_are_requests(self):
        for line in REQUESTS:
            self.assertIs(is_request(line), True, line)
        for line in NONE:
            self.assertIs(is_request(line), False, line)

    def test_with_one_sign_changed(self):
        # Whatever is a request is done or asked without any other error than those that are refused.
        seen = {True: 0, False: 0}
        for line in REQUESTS:
            for at in range(len(line) + 1):
                for sign in "a:,- \n019>n":
                    for other in (line[:at] + sign + line[at:], line[:at] + sign + line[at + 1:]):
                        seen[is_request(other)] += 1
                        if is_request(other):
                            self.assertEqual(len(replies("short", other)), 1)
                        else:
                            self.assertEqual(outcome(replies, "short", other)[:2] if other else None, ("raised", "BadText") if other else None)
        self.assertTrue(min(seen.values()) > 400, seen)

    def test_any_string(self):
        for line in ("\u00e9", "\ud800", "undo\x00", "can\u00a0", "tell 0 \u00e9:1 ->", "tell 0 \u212a:1 ->", "undo\r", "\r\n"):
            self.assertIs(is_request(line), False)


class RepliesTest(unittest.TestCase):

    def test_beside_the_methods(self):
        dice, seen = Dice(241), set()
        for _ in range(60):
            shop = dice.pick(SHOPS)
            yard, lines, wanted = Yard(shop), [], []
            for _ in range(dice.rolls.randint(0, 40)):
                edit = made_up_edit(dice, len(yard.telling()))
                line = dice.pick((line_of(edit),) * 3 + ("undo", "redo", "rows", "can", "out", "shelf"))
                if edit[0] == "tell" and dice.rolls.random() < 0.3:
                    line = "can" + line_of(edit)[4:]
                if "-1" not in line:
                    lines.append(line)
                    wanted.append(plain_reply(yard, line, edit))
            text = "\n".join(lines)
            self.assertTrue(same(replies(shop, text), wanted), (shop, text))
            self.assertTrue(last_yard(shop, text) == yard)
            self.assertEqual(outcome(last_yard(shop, text).redo), outcome(yard.redo))
            seen |= {"number" if own.isdigit() else own if own.startswith("refused") else own.split(" ")[0] for own in wanted}
        self.assertTrue({"done", "yes", "no", "number", "release", "", "refused NoRow", "refused NothingDone", "refused CanNot"} <= seen, seen)

    def test_by_hand(self):
        self.assertEqual(replies("growing", "\n".join(TOLD)), ["done", "done", "yes", "done", "1", "done", "yes", "no",
                                                              "release app:1 1 -\nrelease app:2 4 -", "refused NoRow"])
        self.assertEqual(replies("still", "shelf\nrows\nout\ncan\nundo\nredo\ncan 0 -> none\ncan 0 ->"),
                         ["", "0", "0", "yes", "refused NothingDone", "refused NothingDone", "no", "yes"])
        self.assertEqual(replies("still", "tell 0 ->\ntell 3 a:1 -> none\nmend 1 a:1\nshift 0 9\nshop short\nrows\nshelf\nundo\nshelf"),
                         ["done"] * 5 + ["2", "release a:1 3 3", "done", "release a:1 0 -"])
        yard = last_yard("still", "tell 0 ->\ntell 3 a:1 -> none\nmend 1 a:1\nshift 0 9\nshop short\nundo")
        self.assertEqual((yard.edits(), yard.redo()),
                         ([("tell", 0, (), ()), ("tell", 3, (("a", (1,)),), None), ("mend", 1, (("a", 1),)), ("shift", 0, 9)], ("shop", "short")))

    def test_of_no_lines(self):
        for shop in SHOPS:
            self.assertEqual(replies(shop, ""), [])
            self.assertTrue(last_yard(shop, "") == Yard(shop))

    def test_what_is_refused_changes_nothing(self):
        lies = "\n".join(["tell 0 a:2 -> a:1"] * 11)
        text = lies + "\nout\nshelf\ndrop 11\nmend 11\nshift 99 0\nrows\nundo\nout\nredo\nout"
        self.assertEqual(replies("short", text)[11:], ["refused TooMany", "refused CanNot"] + ["refused NoRow"] * 3 + ["11", "done", "10", "done", "refused TooMany"])
        self.assertEqual(len(last_yard("short", text)), 11)

    def test_each_call_begins_anew(self):
        first = replies("growing", "\n".join(TOLD))
        first.append("more")
        self.assertEqual(replies("growing", "\n".join(TOLD)), first[:-1])
        one, other = last_yard("still", "shop short"), last_yard("still", "shop short")
        one.undo()
        self.assertEqual((len(one), len(other)), (0, 1))

    def test_bad_text(self):
        for text, line in (("\n", 0), ("undo\n", 1), ("rubbish", 0), ("can\ncan\nrubbish\nrubbish", 2), ("drop 5\nundo\ntell", 2), ("tell 0 ->\n\nundo", 1),
                           ("row 0 ->", 0), ("rows\nshelf 1", 1)):
            for function in (replies, last_yard):
                with self.assertRaises(BadText) as caught:
                    function("still", text)
                self.assertEqual(caught.exception.line, line)


if __name__ == "__main__":
    unittest.main()
