"""[4]: states.py, beside plain reckonings over all small LOTS and RULES."""

import itertools
import unittest

from helper import subsets
from lockstold.errors import CanNot
from lockstold.states import (from_best, is_let, is_lot, is_name, is_release, is_rules, lot_in, lot_less, lots_common,
                              lots_joined, rules_with)

LOTS = subsets(range(5))
LONG, TOP = "abcdefghijkl", 10 ** 6


def all_rules():
    """All RULES of the NAMES a, b, c with LOTS of 0, 1, 2."""
    for names in [()] + subsets("abc"):
        for lots in itertools.product(subsets(range(3)), repeat=len(names)):
            yield tuple(zip(names, lots))


class KindsTest(unittest.TestCase):

    def test_names_have_1_to_12_letters(self):
        for name in ("a", "z", "ab", LONG, "zzzzzzzzzzzz"):
            self.assertIs(is_name(name), True)
        for thing in ("", LONG + "m", "A", "a1", "a b", " a", "a\n", "-", "\u00e4", "a_b", 1, None, True, ("a",), ["a"]):
            self.assertIs(is_name(thing), False)

    def test_releases(self):
        for thing in (("a", 1), (LONG, TOP), ("lib", 10 ** 30)):
            self.assertIs(is_release(thing), True)
        for thing in (("a", 0), ("a", -1), ("a", True), ("a", None), ("", 1), ["a", 1], ("a",), ("a", 1, 1), ("a", "1"),
                      (1, "a"), "ab", (), None):
            self.assertIs(is_release(thing), False)

    def test_lots(self):
        for thing in ((0,), (1,), (0, 1, 2), (0, TOP), (7, 10 ** 30)):
            self.assertIs(is_lot(thing), True)
        for thing in ((), (1, 0), (1, 1), (-1, 0), (False, 1), (0, True), [0], ("0",), 0, None, (None,), ((0,),)):
            self.assertIs(is_lot(thing), False)

    def test_rules(self):
        for thing in ((), (("a", (0,)),), (("a", (0, 2)), ("b", (1, 3))), ((LONG, (TOP,)),), (("a", (0,)), ("aa", (0,)))):
            self.assertIs(is_rules(thing), True)
        for thing in ((("b", (0,)), ("a", (0,))), (("a", (0,)), ("a", (1,))), (("a", ()),), (("a", (1, 0)),), [],
                      [("a", (0,))], (["a", (0,)],), (("a", [0]),), (("a",),), (("a", (0,), 1),), (("A", (0,)),), None, "",
                      ("a", (0,))):
            self.assertIs(is_rules(thing), False)


class LotsTest(unittest.TestCase):

    def test_joined_lets_what_either_lets(self):
        for lot, more in itertools.product(LOTS, LOTS):
            found = lots_joined(lot, more)
            self.assertTrue(is_lot(found))
            for state in range(6):
                self.assertEqual(state in found, state in lot or state in more)

    def test_common_lets_what_both_let(self):
        for lot, more in itertools.product(LOTS, LOTS):
            if not set(lot) & set(more):
                with self.assertRaises(CanNot):
                    lots_common(lot, more)
                continue
            found = lots_common(lot, more)
            self.assertTrue(is_lot(found))
            for state in range(6):
                self.assertEqual(state in found, state in lot and state in more)

    def test_less_lets_all_others(self):
        for lot, state in itertools.product(LOTS, range(7)):
            if lot == (state,):
                with self.assertRaises(CanNot):
                    lot_less(lot, state)
                continue
            self.assertEqual(lot_less(lot, state), tuple(sorted(set(lot) - {state})))

    def test_from_best_has_0_first_then_the_greater(self):
        for lot in LOTS + [(TOP,), (0, TOP), (1, TOP, 10 ** 30)]:
            found = from_best(lot)
            self.assertIsInstance(found, list)
            self.assertEqual(sorted(found), list(lot))
            for better, worse in zip(found, found[1:]):
                self.assertTrue(better == 0 or better > worse > 0)


class RulesTest(unittest.TestCase):

    def test_lot_in_and_is_let(self):
        for rules in all_rules():
            for name in ("a", "b", "c", "d", LONG):
                self.assertEqual(lot_in(rules, name), dict(rules).get(name))
                for state in (0, 1, 2, 3, TOP, 10 ** 30):
                    lot = dict(rules).get(name)
                    self.assertIs(is_let(rules, name, state), lot is None or state in lot)

    def test_with_a_lot_in_the_place_of_another(self):
        for rules in all_rules():
            for name, lot in itertools.product(("a", "b", "bb", LONG), ((0,), (0, 5), (TOP,))):
                found = rules_with(rules, name, lot)
                self.assertTrue(is_rules(found))
                self.assertEqual(dict(found), {**dict(rules), name: lot})


if __name__ == "__main__":
    unittest.main()
