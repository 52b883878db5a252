"""Point 18: names."""

import unittest

from plain_looks import LETTERS, check_arguments
from sightstone.errors import BadName
from sightstone.names import checked_name

BAD_NAMES = [
    "", "a" * 13, LETTERS, "A", "aB", "Ab", "a1", "1", "a b", " a", "a ", " ", "a\n", "\na", "\n", "a\nb", "a.", "?",
    "a-b", "a_b", "{", "`", "\t", "abcdefghijkL", "\0", "a\x7f", "A" * 12, "1" * 12, "a" * 12 + "\n",
]

GOOD_NAMES = ["a", "z", "ab", "zz", "eye", "abcdefghijkl", "mnopqrstuvwx", "z" * 12, "yz" * 3]


class CheckedName(unittest.TestCase):
    def test_arguments(self):
        check_arguments(self, checked_name, ["name"])

    def test_good_names_are_answered(self):
        for name in GOOD_NAMES + list(LETTERS) + ["q" * many for many in range(1, 13)]:
            self.assertEqual(checked_name(name), name)

    def test_bad_names_are_refused(self):
        for name in BAD_NAMES:
            with self.subTest(name), self.assertRaises(BadName):
                checked_name(name)

    def test_every_other_sign_is_refused_wherever_it_is(self):
        for code in range(128):
            if chr(code) not in LETTERS:
                for name in (chr(code), chr(code) + "ab", "a" + chr(code) + "b", "ab" + chr(code)):
                    with self.subTest(name), self.assertRaises(BadName):
                        checked_name(name)


if __name__ == "__main__":
    unittest.main()
