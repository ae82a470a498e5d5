"""Values that exclude each other [7]."""

import itertools
import unittest

from settingsmerge.history import History, Release
from things import text

RELEASES = [
    Release(text("a.x=1", "a.y=2", "a.z=3")),
    Release(text("b.x=1", "a.y=4"), renames=[("a.x", "b.x")]),
    Release(text("b.x=5", "a.y=4", "c.z=6"), returns=[(0, "a.z", "c.z")]),
]
X_SIDES = [(0, "a.x"), (1, "b.x"), (2, "b.x")]
Z_SIDES = [(0, "a.z"), (2, "c.z")]


class ExclusionsTest(unittest.TestCase):
    def assert_excludes(self, history, *pairs):
        """Just these pairs ((slot, value), (other, value)) exclude each other, in both orders."""
        values = ["1", "2", "3", "4", "5", "6", "7", "x", None]
        expected = set(pairs) | {(two, one) for one, two in pairs}
        sides = list(itertools.product(range(history.slots), values))
        found = {(one, two) for one, two in itertools.product(sides, repeat=2) if history.excluded(*one, *two)}
        self.assertEqual(found, expected)

    def test_none(self):
        for exclusions in [[], ()]:
            history = History(*RELEASES, exclusions=exclusions)
            self.assertIs(history.has_exclusions, False)
            self.assert_excludes(history)
        self.assert_excludes(History(*RELEASES))

    def test_told_by_any_release_and_place(self):
        for one, two in itertools.product(X_SIDES, Z_SIDES):
            history = History(*RELEASES, exclusions=[(one + ("7",), two + ("x",))])
            self.assertIs(history.has_exclusions, True)
            self.assert_excludes(history, ((0, "7"), (2, "x")))

    def test_the_other_way_round_and_twice(self):
        one, two = (0, "a.x", "7"), (2, "c.z", "x")
        again = (1, "b.x", "7")
        for exclusions in [[(one, two)], [(two, one)], ((one, two), (two, one)), [(one, two), (one, two), (two, again)]]:
            history = History(*RELEASES, exclusions=exclusions)
            self.assert_excludes(history, ((0, "7"), (2, "x")))

    def test_several(self):
        history = History(*RELEASES, exclusions=[
            ((0, "a.x", "1"), (0, "a.y", "x")), ((0, "a.x", "1"), (0, "a.y", "7")), ((0, "a.y", "x"), (0, "a.z", "x"))])
        self.assert_excludes(history, ((0, "1"), (1, "x")), ((0, "1"), (1, "7")), ((1, "x"), (2, "x")))

    def test_equal_values_of_two_slots(self):
        history = History(*RELEASES, exclusions=[((0, "a.x", "7"), (0, "a.y", "7"))])
        self.assert_excludes(history, ((0, "7"), (1, "7")))

    def test_none_excludes_nothing(self):
        history = History(*RELEASES, exclusions=[((0, "a.x", "7"), (0, "a.z", "x"))])
        self.assertIs(history.excluded(0, "7", 2, "x"), True)
        self.assertIs(history.excluded(2, "x", 0, "7"), True)
        self.assertIs(history.excluded(0, None, 2, "x"), False)
        self.assertIs(history.excluded(0, "7", 2, None), False)
        self.assertIs(history.excluded(0, None, 2, None), False)
        self.assertIs(history.excluded(0, "x", 2, "7"), False)
        self.assertIs(history.excluded(2, "7", 0, "x"), False)

    def test_a_slot_does_not_exclude_itself(self):
        history = History(*RELEASES, exclusions=[((0, "a.x", "7"), (0, "a.z", "x"))])
        self.assertIs(history.excluded(0, "7", 0, "x"), False)
        self.assertIs(history.excluded(0, "7", 0, "7"), False)

    def test_longest_values(self):
        long = "abcdefghijkl"
        history = History(*RELEASES, exclusions=[((0, "a.x", long), (0, "a.y", "0-"))])
        self.assertIs(history.excluded(1, "0-", 0, long), True)


if __name__ == "__main__":
    unittest.main()
