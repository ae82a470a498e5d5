"""Releases and exclusions that make no history [6, 7]."""

import itertools
import unittest

from settingsmerge.errors import NoHistory
from settingsmerge.history import History, Release
from things import NO_STRINGS, ODD_STRINGS, text

XY = text("a.x=1", "a.y=2")
LETTERS = "abcdefghijklmnopqrstuvwxyz"


def letters(many, section="s"):
    return text(*["%s.%s=1" % (section, letter) for letter in LETTERS[:many]])


class NoHistoryTest(unittest.TestCase):
    def assert_none(self, at, kind, *releases, exclusions=()):
        with self.assertRaises(NoHistory) as caught:
            History(*releases, exclusions=exclusions)
        self.assertEqual((caught.exception.at, caught.exception.kind), (at, kind))
        self.assertIs(type(caught.exception.at), int)


class TextsTest(NoHistoryTest):
    def test_no_release(self):
        self.assert_none(0, "many")
        self.assert_none(0, "many", exclusions=[None])

    def test_no_string(self):
        for thing in NO_STRINGS:
            with self.subTest(thing):
                self.assert_none(0, "text", Release(thing))
                self.assert_none(2, "text", Release(XY), Release(XY), Release(thing), Release(XY))

    def test_no_file(self):
        for thing in [" ", "a = 1", "[a]\nx = 1\nx = 2", "[a]\n[a]", "[a] ", "[a]\nx=1", "#~", "[a]\nx = -1", "[A]"]:
            with self.subTest(thing):
                self.assert_none(0, "text", Release(thing))
                self.assert_none(1, "text", Release(XY), Release(thing))

    def test_kept_lines(self):
        for thing in ["#~ 0 a.x", "#~ 0 a.x = 1", XY + "\n#~ 0 a.z = 1", "#~ 12 a.z\n" + XY]:
            with self.subTest(thing):
                self.assert_none(0, "text", Release(thing))
                self.assert_none(1, "text", Release(XY), Release(thing))


class RenamesTest(NoHistoryTest):
    def assert_no_renames(self, renames, before=XY, here=text("a.y=1", "a.z=1", "b.b=1")):
        with self.subTest(renames=renames):
            self.assert_none(1, "rename", Release(before), Release(here, renames=renames))

    def test_first_release(self):
        for renames in [[("a.x", "a.x")], [("a.x", "a.y")], [("a.q", "a.x")], [None]]:
            self.assert_none(0, "rename", Release(XY, renames=renames))

    def test_old_place_is_not_there(self):
        self.assert_no_renames([("a.z", "a.z")])
        self.assert_no_renames([("a.q", "a.z")])
        self.assert_no_renames([("a", "a.z")])
        self.assert_no_renames([("a.x", "a.z"), ("b.b", "b.b")])

    def test_old_place_is_of_an_earlier_release_only(self):
        first, second, third = Release(XY), Release(text("a.x=1")), Release(text("a.z=1"), renames=[("a.y", "a.z")])
        self.assert_none(2, "rename", first, second, third)

    def test_new_place_is_not_there(self):
        self.assert_no_renames([("a.x", "a.x")])
        self.assert_no_renames([("a.x", "a.q")])
        self.assert_no_renames([("a.y", "a.z"), ("a.x", "b.")])

    def test_old_place_twice(self):
        self.assert_no_renames([("a.x", "a.y"), ("a.x", "a.z")])
        self.assert_no_renames([("a.x", "a.z"), ("a.x", "a.z")])

    def test_new_place_twice(self):
        self.assert_no_renames([("a.x", "a.z"), ("a.y", "a.z")])

    def test_other_forms(self):
        for renames in [None, True, 0, 3, "", "ab", "a.x", ("a.x", "a.z"), ["a.x", "a.z"], [["a.x", "a.z"]],
                        ("az",), [()], [("a.x",)], [("a.x", "a.z", "a.z")], [None], [0], [("a.x", None)],
                        [(None, "a.z")], [(["a.x"], "a.z")], [("a.x", ["a.z"])], [(("a.x",), "a.z")],
                        [("a.x", "a.z"), None], [[["a.x"], ["a.z"]]], [(0, 0)], [(True, "a.z")]]:
            self.assert_no_renames(renames)

    def test_any_object(self):
        for thing in NO_STRINGS + ODD_STRINGS:
            if thing not in ([], ()):
                self.assert_no_renames(thing)
                self.assert_none(0, "rename", Release(XY, renames=thing))
            self.assert_no_renames([thing])
            self.assert_no_renames([("a.x", thing)])
            self.assert_no_renames([(thing, "a.z")])

    def test_none_at_all(self):
        for renames in [(), []]:
            self.assertEqual(len(History(Release(XY, renames=renames), Release(XY, renames=renames))), 2)


class ReturnsTest(NoHistoryTest):
    def assert_no_returns(self, returns, here=text("a.y=1", "a.z=1", "b.b=1"), renames=()):
        """Of a third release: a.x was in the first one only, a.q in none, a.y and a.w in the second one."""
        with self.subTest(returns=returns):
            first, second = Release(XY), Release(text("a.y=1", "a.w=1"))
            self.assert_none(2, "return", first, second, Release(here, renames=renames, returns=returns))

    def test_first_release(self):
        for returns in [[(0, "a.x", "a.x")], [(0, "a.q", "a.x")], [(-1, "a.x", "a.x")], [None]]:
            self.assert_none(0, "return", Release(XY, returns=returns))

    def test_second_release(self):
        for returns in [[(0, "a.x", "a.z")], [(0, "a.x", "a.x")], [(1, "a.z", "a.z")]]:
            self.assert_none(1, "return", Release(XY), Release(text("a.z=1"), returns=returns))

    def test_release_is_no_earlier_one(self):
        for named in [2, 3, 8, 99, -1, -2, -3, True, False, None, "0", [0], (0,), 10 ** 19]:
            self.assert_no_returns([(named, "a.x", "a.z")])
            self.assert_no_returns([(named, "a.z", "a.z")])

    def test_release_does_not_have_the_old_place(self):
        self.assert_no_returns([(1, "a.x", "a.z")])
        self.assert_no_returns([(0, "a.z", "a.z")])
        self.assert_no_returns([(0, "a.q", "a.z")])
        self.assert_no_returns([(0, "a.x", "a.z"), (1, "a.z", "b.b")])

    def test_new_place_is_not_there(self):
        self.assert_no_returns([(0, "a.x", "a.x")])
        self.assert_no_returns([(0, "a.x", "a.q")])

    def test_new_place_has_a_slot_that_stayed(self):
        self.assert_no_returns([(0, "a.x", "a.y")])

    def test_new_place_has_a_slot_by_a_rename(self):
        self.assert_no_returns([(0, "a.x", "a.z")], renames=[("a.w", "a.z")])

    def test_release_before_has_the_slot(self):
        self.assert_no_returns([(0, "a.y", "a.z")])
        self.assert_no_returns([(1, "a.y", "a.z")])
        self.assert_no_returns([(1, "a.w", "a.z")])
        # a.y leaves with this release, but the one before has it.
        self.assert_no_returns([(0, "a.y", "a.z")], here=text("a.z=1"))
        self.assert_no_returns([(1, "a.y", "a.z")], here=text("a.y=1", "a.z=1"), renames=[("a.w", "a.y")])

    def test_slot_twice(self):
        self.assert_no_returns([(0, "a.x", "a.z"), (0, "a.x", "b.b")])
        first, second = Release(text("a.x=1")), Release(text("a.y=1"), renames=[("a.x", "a.y")])
        last = Release(text("a.x=1", "a.y=1"), returns=[(0, "a.x", "a.x"), (1, "a.y", "a.y")])
        self.assert_none(3, "return", first, second, Release(""), last)

    def test_new_place_twice(self):
        first = Release(text("a.x=1", "a.y=1"))
        last = Release(text("a.z=1"), returns=[(0, "a.x", "a.z"), (0, "a.y", "a.z")])
        self.assert_none(2, "return", first, Release(""), last)
        again = Release(text("a.z=1"), returns=[(0, "a.x", "a.z"), (0, "a.x", "a.z")])
        self.assert_none(2, "return", first, Release(""), again)

    def test_other_forms(self):
        for returns in [None, True, 0, "", "abc", (0, "a.x", "a.z"), [[0, "a.x", "a.z"]], [()], [(0,)], [(0, "a.x")],
                        [(0, "a.x", "a.z", "a.z")], [("a.x", "a.z")], [None], [0], [(0, None, "a.z")],
                        [(0, "a.x", None)], [(0, ["a.x"], "a.z")], [(0, "a.x", ["a.z"])], [(0, "a.x", "a.z"), None]]:
            self.assert_no_returns(returns)

    def test_any_object(self):
        for thing in NO_STRINGS + ODD_STRINGS:
            if thing not in ([], ()):
                self.assert_no_returns(thing)
            self.assert_no_returns([thing])
            if thing != 0 or thing is False:
                self.assert_no_returns([(thing, "a.x", "a.z")])
            self.assert_no_returns([(0, thing, "a.z")])
            self.assert_no_returns([(0, "a.x", thing)])


class ManyTest(NoHistoryTest):
    def test_nine_releases(self):
        for many in [9, 10, 12]:
            self.assert_none(8, "many", *[Release(XY)] * many)
        self.assertEqual(len(History(*[Release(XY)] * 8)), 8)

    def test_the_ninth_release_is_not_looked_at(self):
        self.assert_none(8, "many", *[Release(XY)] * 8, Release(None, renames=3, returns=4))
        self.assert_none(7, "text", *[Release(XY)] * 7, Release(None), Release(XY))

    def test_thirteen_slots_at_once(self):
        self.assertEqual(History(Release(letters(12))).slots, 12)
        for many in [13, 14, 26]:
            self.assert_none(0, "many", Release(letters(many)))

    def test_thirteenth_slot_later(self):
        first, second = Release(letters(7)), Release(letters(5, "t"))
        self.assertEqual(History(first, second).slots, 12)
        self.assert_none(2, "many", first, second, Release(text("t.a=1", "u.u=1")))
        self.assert_none(1, "many", first, Release(letters(6, "t")))
        # A setting that is gone and comes without a return is a new slot.
        self.assert_none(2, "many", Release(letters(12)), Release(""), Release(text("s.a=1")))
        back = Release(text("s.a=1"), returns=[(0, "s.a", "s.a")])
        self.assertEqual(History(Release(letters(12)), Release(""), back).slots, 12)


class OrderTest(NoHistoryTest):
    """Two faults in one history: that of the earlier release first, and in one release in the order of the kinds."""

    def test_order_in_one_release(self):
        wide = letters(13)
        faults = {
            "text": (lambda part: part[0] is None),
            "rename": (lambda part: part[1] is None),
            "return": (lambda part: part[2] is None),
        }
        for shipped, renames, returns in itertools.product([None, wide, XY], [None, ()], [None, ()]):
            kinds = [kind for kind, test in faults.items() if test((shipped, renames, returns))]
            kinds += ["many"] if shipped == wide else []
            if kinds:
                for at in [0, 1, 3]:
                    before = [Release(XY)] * at
                    self.assert_none(at, kinds[0], *before, Release(shipped, renames=renames, returns=returns))

    def test_order_of_releases(self):
        faulty = {
            "text": Release("x"), "rename": Release(XY, renames=[1]), "return": Release(XY, returns=[1]),
            "many": Release(letters(13)),
        }
        for one, two in itertools.product(faulty, repeat=2):
            self.assert_none(1, one, Release(XY), faulty[one], faulty[two])
            self.assert_none(2, one, Release(XY), Release(XY), faulty[one], Release(XY), faulty[two])

    def test_releases_before_exclusions(self):
        self.assert_none(1, "rename", Release(XY), Release(XY, renames=[1]), exclusions=[None])
        self.assert_none(1, "many", Release(XY), Release(letters(11)), exclusions=[((0, "a.x", "1"), (0, "a.y", "2"))])


class ExclusionsTest(NoHistoryTest):
    FIRST, SECOND = (0, "a.x", "8"), (1, "a.y", "9")

    def releases(self):
        return [Release(XY), Release(text("a.y=3", "b.x=4"), renames=[("a.x", "b.x")])]

    def assert_no_exclusion(self, thing):
        with self.subTest(thing=thing):
            self.assert_none(0, "exclusion", *self.releases(), exclusions=[thing])
            self.assert_none(1, "exclusion", *self.releases(), exclusions=((self.FIRST, self.SECOND), thing, thing))

    def test_forms(self):
        first, second = self.FIRST, self.SECOND
        for thing in [(), (first,), (first, second, first), [first, second], (list(first), second),
                      (first, list(second)), (first, None), (None, second), (first, second[:2]),
                      (first + (1,), second), first, (first, "a.y9"), ((first, second),)]:
            self.assert_no_exclusion(thing)

    def test_releases_in_exclusions(self):
        for thing in [2, 8, -1, -2, True, False, None, "0", [0], (0,), 10 ** 19]:
            self.assert_no_exclusion(((thing, "a.y", "8"), (0, "a.x", "9")))
            self.assert_no_exclusion(((0, "a.x", "8"), (thing, "a.y", "9")))

    def test_places_in_exclusions(self):
        for thing in ["a.q", "b.x", "a", "", "a.x ", None, 0, ["a.x"], ("a.x",), True]:
            self.assert_no_exclusion(((0, thing, "8"), self.SECOND))
            self.assert_no_exclusion((self.SECOND, (0, thing, "8")))
        self.assert_no_exclusion(((1, "a.x", "8"), self.SECOND))

    def test_values_in_exclusions(self):
        for thing in ["", "-", "-1", "A", "1 2", "a" * 13, "8\n", None, 8, True, ["8"], ("8",)]:
            self.assert_no_exclusion(((0, "a.x", thing), self.SECOND))
            self.assert_no_exclusion((self.FIRST, (0, "a.y", thing)))

    def test_any_object(self):
        for thing in NO_STRINGS + ODD_STRINGS:
            self.assert_no_exclusion(thing)
            self.assert_no_exclusion((thing, self.SECOND))
            self.assert_no_exclusion((self.FIRST, thing))
            self.assert_no_exclusion((thing, thing))

    def test_the_same_slot(self):
        self.assert_no_exclusion(((0, "a.x", "8"), (0, "a.x", "9")))
        self.assert_no_exclusion(((0, "a.x", "8"), (0, "a.x", "8")))
        self.assert_no_exclusion(((0, "a.x", "8"), (1, "b.x", "9")))
        self.assert_no_exclusion(((1, "a.y", "8"), (0, "a.y", "9")))

    def test_shipped_in_any_release(self):
        for one, two in [
            ((0, "a.x", "1"), (0, "a.y", "2")), ((1, "b.x", "1"), (1, "a.y", "2")), ((1, "b.x", "1"), (0, "a.y", "2")),
            ((0, "a.x", "4"), (0, "a.y", "3")), ((1, "b.x", "4"), (0, "a.y", "3")),
        ]:
            for sides in [(one, two), (two, one)]:
                self.assert_none(0, "shipped", *self.releases(), exclusions=[sides])
                self.assert_none(1, "shipped", *self.releases(), exclusions=[(self.FIRST, self.SECOND), sides])

    def test_values_of_different_releases_are_no_fault(self):
        exclusions = [((0, "a.x", "1"), (1, "a.y", "3")), ((0, "a.x", "4"), (0, "a.y", "2"))]
        self.assertIs(History(*self.releases(), exclusions=exclusions).has_exclusions, True)

    def test_shipped_values_when_a_release_lacks_a_slot(self):
        releases = [Release(XY), Release(text("a.x=5")), Release(text("a.x=6", "a.y=7"), returns=[(0, "a.y", "a.y")])]
        allowed = [((0, "a.x", "5"), (0, "a.y", "2")), ((0, "a.x", "5"), (0, "a.y", "7"))]
        self.assertIs(History(*releases, exclusions=allowed).has_exclusions, True)
        self.assert_none(2, "shipped", *releases, exclusions=allowed + [((0, "a.x", "6"), (0, "a.y", "7"))])

    def test_order_of_exclusions(self):
        shipped = ((0, "a.x", "1"), (0, "a.y", "2"))
        self.assert_none(0, "shipped", *self.releases(), exclusions=[shipped, None])
        self.assert_none(0, "exclusion", *self.releases(), exclusions=[None, shipped])
        self.assert_none(1, "exclusion", *self.releases(), exclusions=[(self.FIRST, self.SECOND), None, shipped])


if __name__ == "__main__":
    unittest.main()
