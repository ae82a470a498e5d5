"""Names, places and values [2]."""

import unittest

from settingsmerge.files import is_name, is_place, is_value
from things import NO_STRINGS, ODD_STRINGS

LETTERS = "abcdefghijklmnopqrstuvwxyz"
PRINTED = [chr(code) for code in range(32, 127)]
OTHERS = ["\n", "\t", "\r", "\0", "\x7f", "\x60", "\x7b", "\xe4", "\xdf", "\xb2", "\u0660", "\u03b1"]


class Words(unittest.TestCase):
    def check(self, function, right, wrong):
        for thing in right:
            with self.subTest(function=function.__name__, thing=thing):
                self.assertIs(function(thing), True)
        for thing in wrong:
            with self.subTest(function=function.__name__, thing=thing):
                self.assertIs(function(thing), False)


class NamesTest(Words):
    def test_lengths(self):
        self.check(is_name, ["a", "ab", "abcdefg", "abcdefgh", "zzzzzzzz"], ["", "abcdefghi", "a" * 5000])

    def test_characters(self):
        wrong = [character for character in PRINTED + OTHERS if character not in LETTERS]
        self.check(is_name, LETTERS, wrong)
        self.check(is_name, [], ["a" + character for character in wrong])
        self.check(is_name, [], [character + "a" for character in wrong])
        self.check(is_name, [], ["a" + character + "a" for character in wrong])

    def test_any_object(self):
        self.check(is_name, [], NO_STRINGS + ODD_STRINGS + ["a.b", "[a]", "net\n"])

    def test_by_name(self):
        self.assertIs(is_name(thing="net"), True)
        self.assertIs(is_name(thing=3), False)


class PlacesTest(Words):
    def test_lengths(self):
        right = ["a.b", "abcdefgh.b", "a.abcdefgh", "abcdefgh.abcdefgh"]
        self.check(is_place, right, ["abcdefghi.b", "a.abcdefghi", ".", "a.", ".b", "", "a." * 2500])

    def test_dots(self):
        self.check(is_place, ["net.port"], ["netport", "net..port", "net.port.x", ".net.port", "net.port.", "a.b.c.d"])

    def test_characters(self):
        wrong = [character for character in PRINTED + OTHERS if character not in LETTERS]
        self.check(is_place, ["%s.%s" % (letter, letter) for letter in LETTERS], [])
        for form in ["%s.b", "a.%s", "a%s.b", "a.b%s", "a%sb", "%sa.b", "a.%sb"]:
            self.check(is_place, [], [form % character for character in wrong if form != "a%sb" or character != "."])

    def test_any_object(self):
        self.check(is_place, [], NO_STRINGS + ODD_STRINGS + ["net.port\n", "net\n.port", "a.1", "A.b", "a. b"])

    def test_by_name(self):
        self.assertIs(is_place(thing="net.port"), True)
        self.assertIs(is_place(thing=None), False)


class ValuesTest(Words):
    def test_lengths(self):
        self.check(is_value, ["a", "0", "abcdefghijkl", "012345678901"], ["", "abcdefghijklm", "0123456789012", "a" * 5000])

    def test_minus(self):
        self.check(is_value, ["a-", "0-", "a--b", "1-----------", "80-81"], ["-", "-a", "-1", "--", "-abcdefghijk"])

    def test_characters(self):
        allowed = LETTERS + "0123456789"
        wrong = [character for character in PRINTED + OTHERS if character not in allowed + "-"]
        self.check(is_value, allowed, ["-"])
        self.check(is_value, ["a" + character for character in allowed + "-"], [])
        self.check(is_value, [], wrong)
        self.check(is_value, [], ["a" + character for character in wrong])
        self.check(is_value, [], [character + "a" for character in wrong])
        self.check(is_value, [], ["a" + character + "a" for character in wrong])

    def test_any_object(self):
        self.check(is_value, [], NO_STRINGS + ODD_STRINGS + ["80\n", "\n80", " 80", "80 ", "None", "a.b"])

    def test_by_name(self):
        self.assertIs(is_value(thing="80"), True)
        self.assertIs(is_value(thing=80), False)


if __name__ == "__main__":
    unittest.main()
