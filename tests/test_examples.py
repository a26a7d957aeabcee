"""The examples of DOC.md, as it prints them; a name is the one that was set last."""

import doctest
import pathlib
import re
import unittest

from helper import everything, same

EXAMPLES = pathlib.Path(__file__).with_name("examples.txt")
README = pathlib.Path(__file__).resolve().parent.parent / "README.md"


def told_examples():
    """Triples of the point, what is asked, what is told of it (None if names are set)."""
    found, point = [], None
    for line in EXAMPLES.read_text(encoding="ascii").splitlines():
        if re.fullmatch(r"\[\d+\]", line):
            point = line
        elif line.startswith(">>> "):
            found.append([point, line[4:], None])
        elif line:
            found[-1][2] = line
    return found


class ExamplesTest(unittest.TestCase):

    def test_each_example_gives_what_is_told(self):
        known, many = everything(), 0
        for point, asked, told in told_examples():
            with self.subTest(point, asked=asked):
                if told is None:
                    exec(asked, known)
                elif told.startswith("raises "):
                    wanted = eval(told[len("raises "):], known)
                    with self.assertRaises(type(wanted)) as caught:
                        eval(asked, known)
                    self.assertEqual(vars(caught.exception), vars(wanted))
                else:
                    wanted, given = eval(told, known), eval(asked, known)
                    self.assertEqual(given, wanted)
                    self.assertTrue(same(given, wanted), "lists and tuples are not as told")
                many += 1
        self.assertEqual(many, len(told_examples()))

    def test_no_example_was_lost(self):
        points = [point for point, _, _ in told_examples()]
        self.assertEqual({point: points.count(point) for point in points},
                         {"[4]": 8, "[5]": 9, "[6]": 12, "[7]": 10, "[8]": 12, "[9]": 9, "[10]": 9, "[11]": 9,
                          "[12]": 10, "[13]": 11, "[14]": 11, "[15]": 9, "[16]": 13, "[17]": 11, "[18]": 10, "[19]": 13,
                          "[20]": 11, "[21]": 13, "[22]": 10, "[23]": 6})

    def test_what_the_readme_shows(self):
        found = doctest.testfile(str(README), module_relative=False, encoding="utf-8")
        self.assertEqual(found.failed, 0)
        self.assertGreater(found.attempted, 0)


if __name__ == "__main__":
    unittest.main()
