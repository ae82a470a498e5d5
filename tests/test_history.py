"""Releases, slots and what a history tells of them [2, 6, 9]."""

import inspect
import unittest

from settingsmerge.errors import NoRelease, NoSlot
from settingsmerge.history import History, Release
from things import NO_NUMBERS_BELOW_THREE, NO_STRINGS, ODD_STRINGS, text


class HistoriesTest(unittest.TestCase):
    def assert_slots(self, history, *slots):
        """Each slot is a list with a tuple (place, value), or None, for each release."""
        self.assertEqual(history.slots, len(slots))
        for slot, route in enumerate(slots):
            self.assertEqual(len(route), len(history))
            for release, stop in enumerate(route):
                place, value = stop or (None, None)
                with self.subTest(slot=slot, release=release):
                    self.assertEqual(history.place_of(slot, release), place)
                    self.assertEqual(history.shipped_value(slot, release), value)
                    if place is not None:
                        self.assertEqual(history.slot_at(place, release), slot)
            last = max(release for release, stop in enumerate(route) if stop)
            self.assertEqual(history.kept_place(slot), (last, route[last][0]))
        for release in range(len(history)):
            places = {route[release][0] for route in slots if route[release]}
            others = {stop[0] for route in slots for stop in route if stop} - places
            for other in sorted(others):
                self.assertIsNone(history.slot_at(other, release))

    def test_one_release(self):
        history = History(Release("# top\n[net]\nport = 80\n\n[log]\nlevel = 3\n# end"))
        self.assertEqual(len(history), 1)
        self.assert_slots(history, [("net.port", "80")], [("log.level", "3")])
        self.assertEqual(history.shipped_text(0), "# top\n[net]\nport = 80\n\n[log]\nlevel = 3\n# end")
        self.assertIs(history.has_exclusions, False)

    def test_no_slots(self):
        for shipped in ["", "\n", "# nothing", "[net]\n[log]"]:
            history = History(Release(shipped), Release(shipped))
            self.assertEqual((len(history), history.slots), (2, 0))
            self.assertEqual(history.shipped_text(1), shipped)
            self.assertIsNone(history.slot_at("net.port", 1))
            with self.assertRaises(NoSlot):
                history.kept_place(0)

    def test_limits(self):
        self.assertEqual((History.MOST_RELEASES, History.MOST_SLOTS), (8, 12))
        history = History(Release(""))
        self.assertEqual((history.MOST_RELEASES, history.MOST_SLOTS), (8, 12))

    def test_settings_that_stay(self):
        history = History(
            Release(text("net.port=80", "net.host=any")),
            Release(text("net.host=any", "net.port=81")),
            Release(text("net.port=82", "net.host=all")),
        )
        self.assert_slots(
            history,
            [("net.port", "80"), ("net.port", "81"), ("net.port", "82")],
            [("net.host", "any"), ("net.host", "any"), ("net.host", "all")],
        )

    def test_settings_that_are_renamed(self):
        history = History(
            Release(text("net.port=80", "log.level=3")),
            Release(text("net.door=80", "log.level=3"), renames=[("net.port", "net.door")]),
            Release(text("log.level=3", "web.gate=81"), renames=(("net.door", "web.gate"),)),
        )
        self.assert_slots(
            history,
            [("net.port", "80"), ("net.door", "80"), ("web.gate", "81")],
            [("log.level", "3"), ("log.level", "3"), ("log.level", "3")],
        )

    def test_two_that_swap_places(self):
        history = History(
            Release(text("a.x=1", "a.y=2")),
            Release(text("a.x=1", "a.y=2"), renames=[("a.x", "a.y"), ("a.y", "a.x")]),
        )
        self.assert_slots(history, [("a.x", "1"), ("a.y", "2")], [("a.y", "2"), ("a.x", "1")])

    def test_three_that_move_round(self):
        history = History(
            Release(text("a.x=1", "a.y=2", "a.z=3")),
            Release(text("a.x=1", "a.y=2", "a.z=3"), renames=[("a.x", "a.y"), ("a.y", "a.z"), ("a.z", "a.x")]),
        )
        self.assert_slots(
            history, [("a.x", "1"), ("a.y", "2")], [("a.y", "2"), ("a.z", "3")], [("a.z", "3"), ("a.x", "1")])

    def test_a_chain_of_names_within_one_release(self):
        history = History(
            Release(text("a.x=1", "a.y=2")),
            Release(text("a.y=1", "a.z=2"), renames=[("a.x", "a.y"), ("a.y", "a.z")]),
        )
        self.assert_slots(history, [("a.x", "1"), ("a.y", "1")], [("a.y", "2"), ("a.z", "2")])

    def test_a_rename_to_the_same_place(self):
        history = History(Release(text("a.x=1")), Release(text("a.x=2"), renames=[("a.x", "a.x")]))
        self.assert_slots(history, [("a.x", "1"), ("a.x", "2")])

    def test_a_rename_pushes_out_the_setting_that_was_there(self):
        history = History(
            Release(text("a.x=1", "a.y=2")), Release(text("a.y=3"), renames=[("a.x", "a.y")]), Release(text("a.y=4")))
        self.assert_slots(history, [("a.x", "1"), ("a.y", "3"), ("a.y", "4")], [("a.y", "2"), None, None])

    def test_a_new_setting_at_the_place_that_another_one_left(self):
        history = History(
            Release(text("a.x=1")), Release(text("a.x=2", "a.y=1"), renames=[("a.x", "a.y")]))
        self.assert_slots(history, [("a.x", "1"), ("a.y", "1")], [None, ("a.x", "2")])

    def test_settings_that_are_removed_and_new(self):
        history = History(
            Release(text("a.x=1", "a.y=2")), Release(text("a.y=2", "a.z=3")), Release(text("a.x=4", "a.y=2")))
        self.assert_slots(
            history, [("a.x", "1"), None, None], [("a.y", "2"), ("a.y", "2"), ("a.y", "2")],
            [None, ("a.z", "3"), None], [None, None, ("a.x", "4")])

    def test_slots_are_numbered_by_release_then_line(self):
        history = History(
            Release(text("b.z=1", "a.y=2")), Release(text("c.c=1", "a.y=2", "b.b=3", "b.z=1")), Release(text("a.a=1")))
        found = [history.slot_at(*stop) for stop in [("b.z", 0), ("a.y", 0), ("c.c", 1), ("b.b", 1), ("a.a", 2)]]
        self.assertEqual(found, [0, 1, 2, 3, 4])

    def test_a_return_to_the_old_place(self):
        history = History(Release(text("a.x=1")), Release("[a]"), Release(text("a.x=2"), returns=[(0, "a.x", "a.x")]))
        self.assert_slots(history, [("a.x", "1"), None, ("a.x", "2")])

    def test_a_return_to_another_place(self):
        history = History(
            Release(text("a.x=1")), Release("[a]"), Release(text("a.x=2", "b.y=3"), returns=((0, "a.x", "b.y"),)))
        self.assert_slots(history, [("a.x", "1"), None, ("b.y", "3")], [None, None, ("a.x", "2")])

    def test_a_return_after_several_releases(self):
        history = History(
            Release(text("a.x=1")), Release(""), Release(""), Release(""),
            Release(text("a.x=2"), returns=[(0, "a.x", "a.x")]), Release(text("a.x=3")))
        self.assert_slots(history, [("a.x", "1"), None, None, None, ("a.x", "2"), ("a.x", "3")])

    def test_a_return_named_by_any_earlier_release(self):
        for named, place in [(0, "a.x"), (1, "a.y"), (2, "b.z")]:
            history = History(
                Release(text("a.x=1")), Release(text("a.y=1"), renames=[("a.x", "a.y")]),
                Release(text("b.z=1"), renames=[("a.y", "b.z")]), Release(""),
                Release(text("c.c=2"), returns=[(named, place, "c.c")]))
            self.assert_slots(history, [("a.x", "1"), ("a.y", "1"), ("b.z", "1"), None, ("c.c", "2")])

    def test_a_place_of_two_slots_returned_by_the_named_release(self):
        for named, slot in [(0, 0), (2, 1)]:
            history = History(
                Release(text("a.x=1")), Release(""), Release(text("a.x=2")), Release(""),
                Release(text("a.x=3"), returns=[(named, "a.x", "a.x")]))
            self.assertEqual([history.slot_at("a.x", release) for release in range(5)], [0, None, 1, None, slot])

    def test_a_slot_returns_twice(self):
        history = History(
            Release(text("a.x=1")), Release(""), Release(text("a.x=2"), returns=[(0, "a.x", "a.x")]), Release(""),
            Release(text("a.y=3"), returns=[(2, "a.x", "a.y")]))
        self.assert_slots(history, [("a.x", "1"), None, ("a.x", "2"), None, ("a.y", "3")])

    def test_two_return_crosswise(self):
        history = History(
            Release(text("a.x=1", "a.y=2")), Release(""),
            Release(text("a.x=3", "a.y=4"), returns=[(0, "a.x", "a.y"), (0, "a.y", "a.x")]))
        self.assert_slots(history, [("a.x", "1"), None, ("a.y", "4")], [("a.y", "2"), None, ("a.x", "3")])

    def test_a_return_to_a_place_that_a_rename_left(self):
        history = History(
            Release(text("a.x=1", "a.y=2")), Release(text("a.y=2")),
            Release(text("a.y=3", "a.z=4"), renames=[("a.y", "a.z")], returns=[(0, "a.x", "a.y")]))
        self.assert_slots(
            history, [("a.x", "1"), None, ("a.y", "3")], [("a.y", "2"), ("a.y", "2"), ("a.z", "4")])

    def test_most_releases_and_most_slots(self):
        letters = "abcdefghijkl"
        history = History(*[Release(text(*["s.%s=%d" % (letter, at) for letter in letters])) for at in range(8)])
        self.assertEqual((len(history), history.slots), (8, 12))
        self.assert_slots(history, *[[("s." + letter, str(at)) for at in range(8)] for letter in letters])
        grown = History(*[Release(text(*["s.%s=1" % letter for letter in letters[:at + 5]])) for at in range(8)])
        self.assertEqual(grown.slots, 12)
        self.assertEqual(grown.kept_place(11), (7, "s.l"))
        self.assertIsNone(grown.place_of(11, 6))

    def test_slots_that_come_back_do_not_count_twice(self):
        letters = "abcdefghijkl"
        full = text(*["s.%s=1" % letter for letter in letters])
        places = ["s." + letter for letter in letters]
        history = History(Release(full), Release(""), Release(full, returns=[(0, place, place) for place in places]))
        self.assertEqual(history.slots, 12)


class ArgumentsTest(unittest.TestCase):
    def setUp(self):
        self.history = History(
            Release(text("net.port=80", "net.host=any")),
            Release(text("net.port=81", "net.host=any", "log.level=1")),
            Release(text("net.gate=81", "log.level=1"), renames=[("net.port", "net.gate")]),
        )

    def test_by_name(self):
        history = self.history
        self.assertEqual(history.place_of(slot=0, release=2), "net.gate")
        self.assertEqual(history.shipped_value(release=1, slot=0), "81")
        self.assertEqual(history.slot_at(place="log.level", release=2), 2)
        self.assertEqual(history.shipped_text(release=2), "[net]\ngate = 81\n[log]\nlevel = 1")
        self.assertEqual(history.kept_place(slot=1), (1, "net.host"))
        self.assertIs(history.excluded(slot=0, value="80", other=1, other_value="any"), False)
        release = Release(text="x", renames=[1], returns=[2])
        self.assertEqual((release.text, release.renames, release.returns), ("x", (1,), (2,)))

    def test_by_name_only(self):
        for arguments in [("", ()), ("", (), ())]:
            with self.assertRaises(TypeError):
                Release(*arguments)
        kinds = [each.kind.name for each in inspect.signature(History).parameters.values()]
        self.assertEqual(kinds, ["VAR_POSITIONAL", "KEYWORD_ONLY"])

    def assert_raises(self, error, field, thing, call):
        with self.subTest(thing=thing), self.assertRaises(error) as caught:
            call()
        self.assertIs(type(caught.exception), error)
        self.assertIs(getattr(caught.exception, field), thing)

    def test_no_slot(self):
        history = self.history
        for thing in NO_NUMBERS_BELOW_THREE:
            self.assert_raises(NoSlot, "slot", thing, lambda: history.place_of(thing, 0))
            self.assert_raises(NoSlot, "slot", thing, lambda: history.shipped_value(thing, 0))
            self.assert_raises(NoSlot, "slot", thing, lambda: history.kept_place(thing))
            self.assert_raises(NoSlot, "slot", thing, lambda: history.excluded(thing, "1", 0, "1"))
            self.assert_raises(NoSlot, "slot", thing, lambda: history.excluded(0, "1", thing, "1"))
            self.assert_raises(NoSlot, "slot", thing, lambda: history.excluded(0, None, thing, None))

    def test_no_release(self):
        history = self.history
        for thing in NO_NUMBERS_BELOW_THREE:
            self.assert_raises(NoRelease, "release", thing, lambda: history.place_of(0, thing))
            self.assert_raises(NoRelease, "release", thing, lambda: history.shipped_value(0, thing))
            self.assert_raises(NoRelease, "release", thing, lambda: history.shipped_text(thing))
            self.assert_raises(NoRelease, "release", thing, lambda: history.slot_at("net.port", thing))
            self.assert_raises(NoRelease, "release", thing, lambda: history.slot_at(thing, thing))

    def test_no_slot_before_no_release(self):
        history = self.history
        for thing in NO_NUMBERS_BELOW_THREE:
            for other in [7, None, [1]]:
                self.assert_raises(NoSlot, "slot", thing, lambda: history.place_of(thing, other))
                self.assert_raises(NoSlot, "slot", thing, lambda: history.shipped_value(thing, other))
                self.assert_raises(NoSlot, "slot", thing, lambda: history.excluded(thing, "1", other, "1"))

    def test_any_object_as_a_place(self):
        for thing in NO_STRINGS + ODD_STRINGS + ["net", "port", "net.gate", "net.por", "net.port ", "Net.port"]:
            self.assertIsNone(self.history.slot_at(thing, 1))

    def test_kinds_of_values(self):
        history = self.history
        self.assertIs(type(history.slots), int)
        self.assertIs(type(history.slot_at("net.port", 0)), int)
        self.assertIs(type(history.kept_place(0)), tuple)
        self.assertIs(type(history.has_exclusions), bool)
        self.assertIs(type(history.excluded(0, "1", 1, "1")), bool)


class SharingTest(unittest.TestCase):
    def test_attributes_of_a_release(self):
        for thing in NO_STRINGS + ODD_STRINGS:
            release = Release(thing, renames=thing, returns=thing)
            for found in [release.text, release.renames, release.returns]:
                if isinstance(thing, list):
                    self.assertEqual(found, tuple(thing))
                    self.assertIs(type(found), tuple)
                else:
                    self.assertIs(found, thing)

    def test_defaults_of_a_release(self):
        release = Release("")
        self.assertEqual((release.renames, release.returns), ((), ()))

    def test_lists_within_stay(self):
        inner = ["a.x", "a.y"]
        release = Release([inner], renames=[inner], returns=(inner,))
        self.assertIs(release.text[0], inner)
        self.assertIs(release.renames[0], inner)
        self.assertIs(release.returns[0], inner)

    def test_lists_that_are_changed_afterwards(self):
        renames, returns = [("a.x", "a.y")], [(0, "a.z", "a.z")]
        release = Release(text("a.y=1", "a.z=1"), renames=renames, returns=returns)
        renames.clear()
        returns.append(None)
        self.assertEqual(release.renames, (("a.x", "a.y"),))
        self.assertEqual(release.returns, ((0, "a.z", "a.z"),))
        exclusions = [((0, "a.x", "7"), (0, "a.z", "8"))]
        history = History(Release(text("a.x=1", "a.z=1")), Release(text("a.x=1")), release, exclusions=exclusions)
        exclusions.clear()
        exclusions.append(3)
        self.assertEqual(history.slots, 2)
        self.assertIs(history.has_exclusions, True)
        self.assertIs(history.excluded(0, "7", 1, "8"), True)
        self.assertEqual(len(exclusions), 1)

    def test_arguments_stay_as_they_are(self):
        renames, returns = [("a.x", "a.y")], [(0, "a.z", "a.z")]
        exclusions = [((0, "a.x", "7"), (0, "a.z", "8"))]
        last = Release(text("a.y=1", "a.z=1"), renames=renames, returns=returns)
        History(Release(text("a.x=1", "a.z=1")), Release(text("a.x=1")), last, exclusions=exclusions)
        self.assertEqual(renames, [("a.x", "a.y")])
        self.assertEqual(returns, [(0, "a.z", "a.z")])
        self.assertEqual(exclusions, [((0, "a.x", "7"), (0, "a.z", "8"))])
        self.assertEqual((last.renames, last.returns), ((("a.x", "a.y"),), ((0, "a.z", "a.z"),)))

    def test_one_release_in_two_histories(self):
        middle = Release(text("a.y=2", "a.x=3"), renames=[("a.x", "a.y")])
        one = History(Release(text("a.x=1")), middle)
        two = History(Release(text("a.z=1", "a.x=1")), middle, middle)
        self.assertEqual([one.slot_at("a.y", 1), one.slot_at("a.x", 1), one.slots], [0, 1, 2])
        self.assertEqual([two.slot_at("a.y", 1), two.slot_at("a.x", 1)], [1, 2])
        self.assertEqual([two.slot_at("a.y", 2), two.slot_at("a.x", 2), two.slots], [2, 3, 4])
        self.assertEqual([one.slot_at("a.y", 1), one.slot_at("a.x", 1), one.slots], [0, 1, 2])

    def test_a_release_that_is_changed_afterwards(self):
        release = Release(text("a.x=1"))
        history = History(release, release)
        release.text = text("a.y=1")
        self.assertEqual(history.place_of(0, 1), "a.x")
        self.assertEqual(history.shipped_text(1), text("a.x=1"))


if __name__ == "__main__":
    unittest.main()
