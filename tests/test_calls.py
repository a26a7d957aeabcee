"""[2]: how functions are called, and what they return, for each function of the interface."""

import copy
import unittest

from helper import INTERFACE, Dice, everything, listed, mixed, outcome, same, tupled

RULES = (("a", (0, 2)), ("b", (1, 3)))
ONE, TWO = (("a", 2), ("b", 1)), (("a", 2), ("c", 4))
WISH, FLAT = (("gui", (1, 2)), ("core", (3,))), (("core", (2, 3)),)
PAIR, TRIO, LONE = (("core", 3), ("gui", 2)), (("core", 3), ("gui", 1), ("log", 4)), (("core", 2),)
SPRING = ((("app", 1), (("lib", (1, 2)),), 0, None), (("app", 2), (("lib", (2,)),), 3, None),
          (("lib", 1), (), 0, None), (("lib", 2), (("app", (0, 2)),), 3, 9))
AUTUMN = ((("app", 1), (("lib", (2, 3)),), 0, None), (("app", 2), (("lib", (0, 1)),), 0, None),
          (("lib", 1), (("app", (0, 1)),), 2, None), (("lib", 2), (), 10, None))
WIDE = tuple(((name, version), (), 0, None) for name in "abcdef" for version in (1, 2, 3, 4))
THINGS = [(), [], ONE, PAIR, WISH, RULES, SPRING, ("a", 1), (0, 2), "ab", 1, True, None]
RELEASES = [("app", 1), ("app", 2), ("lib", 2), ("zoo", 1)]
SHELVES = [(), SPRING, AUTUMN, SPRING[:2], WIDE]
LOCKS = [(), (("app", 1),), (("app", 1), ("lib", 1)), (("app", 2), ("lib", 2)), (("zoo", 1),)]

AB, BC, AC = (("a", 1), ("b", 1)), (("b", 1), ("c", 1)), (("a", 1), ("c", 1))
THREE = ((2, (("a", (1,)), ("b", (1,))), AB), (4, (("b", (1,)), ("c", (1,))), BC), (6, (("a", (1,)), ("c", (1,))), AC))
FOUR = ((1, (("app", (1,)),), (("app", 1),)), (1, (("lib", (1,)),), (("lib", 1),)),
        (2, (("app", (1,)), ("lib", (1,))), LOCKS[2]), (1, (("app", (1,)), ("lib", (1,))), None))
SHOWN = ((0, (("app", (1, 2)),), (("app", 2), ("lib", 1))), (0, (("lib", (1, 2)),), (("lib", 2),)),
         (0, (("app", (1,)), ("lib", (1, 2))), (("app", 1), ("lib", 2))))
TORN = ((0, (("a", (1,)),), (("a", 1), ("b", 1), ("c", 2))), (1, (("b", (2,)), ("a", (1,))), (("a", 1), ("b", 2), ("c", 1))),
        (2, (("a", (1,)),), (("a", 1), ("b", 2), ("c", 1))))
CROSS = ((0, (("a", (1, 2)),), (("a", 1), ("b", 2))), (5, (("b", (1, 2)),), (("a", 2), ("b", 1))))
TELLINGS = [(), THREE, FOUR, SHOWN, FOUR[:3]]
SHOPS = ["still", "growing", "short"]
LENDERS = (((("a", 1), (0, 2)), (("c", 1), (1, 2))), (((("a", 1), "b", 0), 2),))
OF_SHELVES = {"telling": TELLINGS, "shop": SHOPS, "day": [0, 2, 5]}
ANY_LIB = (("lib", (1, 2)),)

CHANGES = [("back", 0), ("told", 1, THREE[2]), ("shift", 0, 9), ("other", 1, None), ("other", 0, AC), ("back", 3), ("told", 9, FOUR[0])]

CLAIMS = [("told", "still", THREE), ("told", "short", FOUR), ("alike", 3, SPRING, AUTUMN), ("alike", 0, SPRING, SPRING[:2]),
          ("woven", "still", THREE, 0, AC), ("woven", "growing", THREE, 3, BC), ("come", "still", SHOWN, 0, ANY_LIB, (("lib", 2),)),
          ("come", "growing", SHOWN, 0, (), None), ("out", "still", FOUR, 0), ("out", "still", FOUR, 1), ("mirrors", "still", FOUR, 1),
          ("mirrors", "still", FOUR, 2), ("ranked", "still", TORN), ("ranked", "growing", TORN), ("ordered", CROSS),
          ("ordered", THREE), ("mirrors", "still", FOUR * 2, 2), ("out", "short", THREE * 4, 2), ("alike", 0, WIDE, ()), ("sold", 1),
          (), (1, "still", ()), ("told", "still"), ("told", "big", THREE), ("told", "still", ((0, (), 1),))]

# Samples for each parameter, by the file and the name of it.
SAMPLES = {
    "states": {"rules": [(), RULES], "name": ["a", "c"], "state": [0, 1, 2], "lot": [(0, 1, 2), (2,)],
               "more": [(2, 3), (5,)]},
    "locks": {"lock": [(), ONE, TWO, (("b", 1),)], "other": [(), TWO, ONE], "name": ["a", "z"],
              "release": [("a", 7), ("aa", 3)], "names": [(), ("a", "b", "c")],
              "renames": [(), (("a", "z"),), (("a", "b"), ("b", "a")), (("a", "b"),)],
              "choices": [(), RULES], "number": [-1, 0, 3, 4]},
    "wishes": {"wish": [(), WISH, FLAT], "one": [(), WISH, FLAT], "two": [(), WISH, (("core", (1,)),)],
               "lock": [(), PAIR, LONE], "far": [(), TRIO, LONE], "locks": [(), (TRIO, LONE, PAIR, (), PAIR)],
               "name": ["gui", "app"], "names": [(), ("app", "core", "log")], "versions": [(1,), (2, 5)]},
    "shelves": {"shelf": SHELVES, "other": SHELVES, "release": RELEASES, "name": ["app", "lib", "zoo", "A"],
                "rules": [(), (("lib", (0, 1)),), (("zoo", (1,)),)], "state": [0, 2], "day": [0, 4, 11],
                "names": [(), (("app", "zoo"), ("lib", "app")), (("app", "lib"),)]},
    "standing": {"shelf": SHELVES, "day": [0, 4, 11], "lock": LOCKS, "release": RELEASES, "one": RELEASES,
                 "other": RELEASES, "wish": [(), (("lib", (1, 2)), ("app", (1, 2)))],
                 "wishes": [(), ((), (("app", (2,)),), (("zoo", (1,)),))]},
    "worn": {"shelf": SHELVES, "one": SHELVES, "other": SHELVES, "day": [0, 4, 11]},
    "tellings": {**OF_SHELVES, "release": [("a", 1), ("app", 2), ("z", 1)], "shelf": SHELVES, "one": TELLINGS,
                 "pair": [(("a", 1), "c", 1), (("b", 1), "d", 0), (("app", 2), "lib", 1)], "other": TELLINGS,
                 "wish": [(), ANY_LIB, (("app", (1, 2)), ("lib", (1,)))], "since": [0, 2, 4], "until": [1, 4, 9],
                 "asked": [(), ((0, ANY_LIB), (4, (("app", (1, 2)),)), (4, ()))]},
    "woven": {**OF_SHELVES, "lock": [(), AB, AC, AB + (("c", 1),), (("lib", 2),)], "told": [((), ()), LENDERS],
              "more": TELLINGS, "wish": [(), (("c", (1,)), ("b", (1,))), ANY_LIB]},
    "told": {**OF_SHELVES, "telling": TELLINGS + [((0, (), 1),)], "shop": SHOPS + ["big"], "name": ["lib", "app", "new", "A"],
             "release": [("app", 2), ("lib", 1), ("z", 1), ("z", 0)], "state": [0, 1, 2, -1]},
    "fewrows": {**OF_SHELVES, "telling": TELLINGS + [THREE * 4], "rows": [(), (0, 1), (0, 1, 2, 3), (0, 9), (1, 0)],
                "row": [0, 2, 3, 9], "many": [0, 1, 2, 5, -1],
                "found": [("unmet", 0), ("better", 3, LOCKS[2], (0, 1, 2)), ("better", 3, LOCKS[2], (2,))]},
    "middles": {**OF_SHELVES, "one": [(), AB, LOCKS[3]], "other": [(), BC], "third": [AC, LOCKS[2], ()],
                "locks": [(), (AB,), (AB, BC, AC), (AB, (), AB, BC), tuple((("a", own),) for own in range(1, 70))]},
    "tomorrow": {**OF_SHELVES, "telling": TELLINGS + [((0, (), ()), (0, (("a", (1,)),), None)), (FOUR[0],) * 3],
                 "wish": [(), ANY_LIB, (("b", (1,)),)], "given": [None, (), LOCKS[2], (("lib", 2),)],
                 "later": [(), ANY_LIB], "name": ["lib", "b"], "wishes": [((),), (ANY_LIB, (("c", (1,)),), ANY_LIB)]},
    "liars": {**OF_SHELVES, "telling": TELLINGS + [FOUR * 2, THREE * 4], "number": [0, 3, 9], "kept": [(), (0,), (2, 3), (0, 9)],
              "doubts": [(), (1, 2, 3), (3, 1, 1, 2)]},
    "mirrors": {**OF_SHELVES, "telling": TELLINGS + [FOUR * 2, THREE * 4, THREE[:1]], "rows": [(), (0,), (2, 3), (0, 9)],
                "number": [0, 3, 9], "other": [0, 2, 7], "most": [-1, 0, 1, 4],
                "deal": [(), ((0, 1, 2),), ((0, 1, 3), (2,)), ((0,), (1,), (2,), (3,)), ((0,), (9,))]},
    "ranks": {**OF_SHELVES, "telling": TELLINGS + [TORN, TORN[:2]], "row": [0, 1, 2, 9], "shelf": SHELVES,
              "rank": [(), ("a", "b", "c"), ("c", "a", "b"), ("app", "lib"), ("zoo", "lib", "app")],
              "wish": [(), ANY_LIB, (("app", (1, 2)), ("lib", (1,)))]},
    "windows": {**OF_SHELVES, "telling": TELLINGS + [FOUR[2:0:-1]], "row": [0, 1, 2, 9],
                "release": [("a", 1), ("b", 1), ("app", 1), ("lib", 1), ("z", 1)]},
    "changes": {**OF_SHELVES, "change": CHANGES, "changes": [(), CHANGES[:2], CHANGES[1:], tuple(CHANGES)],
                "name": ["a", "lib", "z"], "one": TELLINGS, "other": TELLINGS,
                "names": [(), (("a", "b"), ("b", "c"), ("c", "z")), (("app", "core"), ("lib", "util")),
                          (("app", "core"), ("lib", "a"))]},
    "judge": {"claim": CLAIMS, "claims": [(), tuple(CLAIMS[:6]), tuple(CLAIMS[4:10]), tuple(CLAIMS[8:14]), tuple(CLAIMS[-6:])]},
    "texts": {"shelf": SHELVES, "lock": LOCKS, "wish": [(), ANY_LIB, (("lib", (1, 20)), ("app", (3,)))], "telling": TELLINGS,
              "text": ["", "lock", "lock a:1 b:20", "wish", "wish b:1,2 a:3", "row 0 ->", "row 3 a:1 -> none\nrow 0 -> a:1", "row",
                       "release a:1 0 -\nlet b:0,1\nrelease a:2 3 9", "release a:1 0 -\n", "lock b:1 a:1"]},
    "yard": {},
    "desk": {"shop": SHOPS, "line": ["", "undo", "can", "can 0 ->", "tell 3 a:1 -> none", "mend 0", "drop -1", "shop big"],
             "text": ["", "can", "tell 0 a:1 -> none\ncan\nshelf\nundo\nundo\nout", "drop 3\n", "rows\nshop still\nredo"]},
}


# Calls that are rarely among so many samples.
MORE = {"why_not_let": [(SHOWN, own, ("app", 2), "lib", 0) for own in SHOPS],
        "is_why_not_let": [(SHOWN, own, ("app", 2), "lib", 0, (0, (("app", 2),))) for own in SHOPS],
        "may_let": [(SHOWN, "still", ("app", 2), "lib", own) for own in (0, 1, 2)],
        "narrowed_by": [(SHOWN, "still", 0, (("lib", (1,)),), (("lib", 1),), (("lib", (1,)),))],
        "lenders": [(THREE, "short", 5, AC), (THREE, "growing", 6, AC)],
        "cheapest_out": [(FOUR, "still", (3, 1, 1, 2))],
        "mirror_shelves": [(FOUR, "still", ((0, 1, 2), (3,))), (THREE, "short", ((0, 1, 2),))],
        "same_mirror": [(FOUR, "growing", 0, 3), (FOUR, "growing", 3, 0)],
        "rank_paper": [(TORN, "still"), (FOUR, "growing"), (FOUR + ((0, ANY_LIB, None),), "short")],
        "sure_ahead": [(TORN, "growing"), (TORN[:2], "still")], "can_be_first": [(TORN[:2], "still")],
        "day_knot": [(CROSS,), (FOUR + CROSS,)],
        "names_changed": [(FOUR, (("app", "core"), ("lib", "util"))), (FOUR, (("app", "lib"), ("lib", "util"), ("z", "zz")))]}


def told_things(file, parameter, values):
    if parameter == "thing":
        return THINGS + [("lacking", ("app", 1)), ("barred", ("app", 1), "lib"), (("app", (1,)),), (("app", 1),),
                         THREE, THREE[0], LENDERS, ("apart", ("a", 1), "b"), ("never", ("lib", 2)), (AB, BC, ()),
                         ("better", 3, LOCKS[2], (0, 1, 2)), ("better", 3, LOCKS[2], (2,)), (3,), (2, 3), ((2, 3),), (0, ()),
                         ((0,), (1,), (2,)), ((0, 1, 2),), (0, 1, 2), (2, 1, 0), ("a", "b", "c"), ("app", "lib"),
                         ("stuck", ("b", "c"), ((0, TORN[1][2], (1,)), (2, TORN[0][2], (0,)))), ("back", 0),
                         ("told", 0, THREE[0]), (("back", 0), ("shift", 1, 5)), CLAIMS[0], CLAIMS[2], CLAIMS[-1]]
    return values[file][parameter]


def all_calls():
    """Triples (function, parameters, arguments) for each function, over all samples."""
    known = everything()
    for file, functions in INTERFACE.items():
        for name, parameters in functions.items():
            given = [()]
            for parameter in parameters:
                given = [own + (value,) for own in given for value in told_things(file, parameter, SAMPLES)]
            dice = Dice(name)
            for own in given if len(given) <= 90 else dice.rolls.sample(given, 90):
                yield known[name], parameters, own
            for own in MORE.get(name, []):
                yield known[name], parameters, own


def like(form, parameters, arguments):
    """The arguments with form on each of them but thing."""
    return tuple(own if parameter == "thing" else form(own) for parameter, own in zip(parameters, arguments))


class CallsTest(unittest.TestCase):

    def test_lists_and_tuples_are_alike(self):
        for function, parameters, arguments in all_calls():
            wanted = outcome(function, *arguments)
            for form in (listed, mixed, lambda own: mixed(own, False)):
                found = outcome(function, *like(form, parameters, arguments))
                self.assertTrue(same(tuple(found[:2]), tuple(wanted[:2])), (function, arguments))

    def test_names_do_as_places(self):
        for function, parameters, arguments in all_calls():
            wanted = outcome(function, *arguments)
            found = outcome(function, **dict(zip(parameters, arguments)))
            self.assertTrue(same(found[:2], wanted[:2]), (function, arguments))

    def test_arguments_stay_as_they_are(self):
        for function, parameters, arguments in all_calls():
            given = like(listed, parameters, arguments)
            before = copy.deepcopy(given)
            outcome(function, *given)
            self.assertTrue(same(given, before), (function, arguments))

    def test_the_same_call_returns_an_equal_result(self):
        for function, parameters, arguments in all_calls():
            first, second = outcome(function, *arguments), outcome(function, *arguments)
            self.assertTrue(same(first[:2], second[:2]), (function, arguments))

    def test_each_returned_list_is_new(self):
        many = 0
        for function, parameters, arguments in all_calls():
            for form in (tupled, listed):
                given = like(form, parameters, arguments)
                kind, found = outcome(function, *given)[:2]
                if kind != "gave" or not isinstance(found, list):
                    continue
                many += 1
                kept, before = copy.deepcopy(found), copy.deepcopy(given)
                found.append("more")
                self.assertTrue(same(given, before), (function, arguments))
                self.assertTrue(same(outcome(function, *given)[1], kept), (function, arguments))
        self.assertGreater(many, 50)

    def test_within_a_list_all_is_made_of_tuples(self):
        for function, parameters, arguments in all_calls():
            kind, found = outcome(function, *like(listed, parameters, arguments))[:2]
            if kind == "gave" and isinstance(found, (list, tuple)):
                for part in found:
                    self.assertTrue(same(part, tupled(part)), (function, arguments))

    def test_what_is_returned_may_be_passed_in_again(self):
        known = everything()
        shelf = known["worn"](SPRING, 4)
        self.assertEqual(known["all_standing"](shelf, 0), known["all_standing"](SPRING, 4))
        answer = known["answer_of"](SPRING, known["just_wish"](known["lock_at"](RULES, 1)), 0)
        self.assertIsNone(answer)
        self.assertEqual(known["best_of"]((), known["all_standing"](SPRING, 4)), ())
        telling = known["telling_of"](SPRING, ((0, (("app", (1, 2)),)), (4, ANY_LIB)))
        self.assertIs(known["tells"](known["tight_shelf"](telling, "short"), telling), True)
        self.assertEqual(known["rows_of"](FOUR, "still", known["against"](FOUR, "still")), (0, 1, 2, 3))
        self.assertIs(known["are_closed"](known["closed_up"](known["all_woven"](THREE, "still", 0))), True)
        more = known["told_next"](SHOWN, "still", 0, (), ())
        self.assertEqual(known["possible_answers"](more, "still", 0, ()), [()])

    def test_lists_come_where_several_results_are_told(self):
        lists = {"from_best", "all_locks", "locks_from_best", "all_that_meet", "all_standing", "answers_on",
                 "worn_along", "all_woven", "new_woven", "woven_more", "all_least_bad", "possible_answers", "narrowed_by",
                 "all_fewest_out", "hit_by", "mirror_shelves", "rivals", "all_ranks", "replies"}
        seen = set()
        for function, parameters, arguments in all_calls():
            kind, found = outcome(function, *arguments)[:2]
            if kind == "gave":
                self.assertEqual(isinstance(found, list), function.__name__ in lists, function)
                seen.add(function.__name__)
        self.assertEqual(seen, {name for functions in INTERFACE.values() for name in functions})


if __name__ == "__main__":
    unittest.main()
