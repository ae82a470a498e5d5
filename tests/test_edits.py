"""What an edit makes of a state [9, 10]."""

import unittest

from settingsmerge.errors import BadEdit, BadText, Excluded
from settingsmerge.history import History, Release
from settingsmerge.states import State, edited
from things import NO_STRINGS, text

# Slot 0 is net.port, 1 net.host, 2 log.level; release 1 lacks net.host and calls net.port net.gate.
HISTORY = History(
    Release("[net]\nport = 80\nhost = any\n[log]\nlevel = 1"),
    Release("[net]\ngate = 81\n[log]\nlevel = 1\n[ui]", renames=[("net.port", "net.gate")]),
)
FIRST, SECOND = HISTORY.shipped_text(0), HISTORY.shipped_text(1)
FRESH, LATER = State.fresh(HISTORY), State.fresh(HISTORY, 1)
RULES = (("all", ""), "own"), (("setting", 7), "shipped")


def row(value, status="follows", *overruled):
    return (value, status, overruled)


class EditsTest(unittest.TestCase):
    def assert_rows(self, state, new, *rows, history=HISTORY):
        """The edit gives these rows, and leaves the state that was passed as it was, and its rules as they are."""
        state = State(state.release, state.rows, rules=RULES)
        before = (state.release, state.rows, state.rules)
        found = edited(history, state, new)
        self.assertEqual(found.rows, rows)
        self.assertEqual((found.release, found.rules), (state.release, RULES))
        self.assertEqual((state.release, state.rows, state.rules), before)
        self.assertIs(type(found), State)
        return found

    def test_by_name(self):
        self.assertEqual(edited(history=HISTORY, state=FRESH, text=FIRST), FRESH)

    def test_no_change(self):
        self.assert_rows(FRESH, FIRST, *FRESH.rows)
        self.assert_rows(LATER, SECOND, *LATER.rows)

    def test_lines_that_only_moved(self):
        own = edited(HISTORY, FRESH, FIRST.replace("80", "90"))
        held = State(0, (row("79", "held", "80"), row(None, "own", "any"), row("1")))
        for state, port, host in [(FRESH, "port = 80", "host = any"), (own, "port = 90", "host = any"),
                                  (held, "port = 79", "# host")]:
            moved = "# top\n\n[log]\n\nlevel = 1\n# x\n[net]\n%s\n# y\n%s\n\n" % (host, port)
            self.assert_rows(state, moved, *state.rows)

    def test_a_value_that_changes(self):
        self.assert_rows(FRESH, FIRST.replace("80", "90"), row("90", "own", "80"), row("any"), row("1"))
        self.assert_rows(LATER, SECOND.replace("81", "90"), row("90", "own", "81"), row(None), row("1"))

    def test_several_values_that_change(self):
        new = text("log.level=2", "net.host=all", "net.port=79")
        self.assert_rows(FRESH, new, row("79", "own", "80"), row("all", "own", "any"), row("2", "own", "1"))

    def test_a_line_that_is_deleted(self):
        self.assert_rows(FRESH, text("net.host=any", "log.level=1"), row(None, "own", "80"), row("any"), row("1"))
        self.assert_rows(FRESH, "", row(None, "own", "80"), row(None, "own", "any"), row(None, "own", "1"))
        self.assert_rows(FRESH, "[net]\n[log]", row(None, "own", "80"), row(None, "own", "any"), row(None, "own", "1"))

    def test_a_line_that_is_added(self):
        gone = edited(HISTORY, FRESH, text("net.host=any", "log.level=1"))
        self.assert_rows(gone, FIRST, *FRESH.rows)
        self.assert_rows(gone, FIRST.replace("80", "90"), row("90", "own", "80"), row("any"), row("1"))

    def test_back_to_the_shipped_value(self):
        once = edited(HISTORY, FRESH, FIRST.replace("80", "90"))
        self.assert_rows(once, FIRST, *FRESH.rows)
        rich = State(1, (row("90", "own", "80", "81", "82"), row(None), row("2", "held", "1")))
        self.assert_rows(rich, SECOND.replace("level = 1", "level = 2"), row("81"), row(None), rich.rows[2])

    def test_own_slots_again(self):
        before = State(1, (row("90", "own", "80", "81"), row(None), row("1")))
        new = SECOND.replace("81", "91")
        self.assert_rows(before, new, row("91", "own", "80", "81"), row(None), row("1"))
        # What was overruled is the new value: then it is overruled no longer.
        self.assert_rows(before, SECOND.replace("81", "80"), row("80", "own", "81"), row(None), row("1"))
        # The value that was given up is not overruled, the shipped one is added.
        before = State(1, (row("90", "own", "80", "99"), row(None), row("1")))
        self.assert_rows(before, new, row("91", "own", "80", "81", "99"), row(None), row("1"))
        gone = "[net]\n[log]\nlevel = 1"
        self.assert_rows(before, gone, row(None, "own", "80", "81", "99"), row(None), row("1"))

    def test_own_value_that_the_release_ships(self):
        before = State(1, (row("81", "own", "80"), row(None), row("1")))
        self.assert_rows(before, SECOND, *before.rows)
        self.assert_rows(before, SECOND.replace("81", "82"), row("82", "own", "80", "81"), row(None), row("1"))

    def test_held_slots(self):
        before = State(1, (row("80", "held", "81", "85"), row(None), row("1")))
        same, shipped, other = SECOND.replace("81", "80"), SECOND, SECOND.replace("81", "90")
        self.assert_rows(before, same, *before.rows)
        self.assert_rows(before, shipped, row("81"), row(None), row("1"))
        # It was not own before, so what it had overruled counts no more.
        self.assert_rows(before, other, row("90", "own", "81"), row(None), row("1"))
        self.assert_rows(before, SECOND.replace("81", "85"), row("85", "own", "81"), row(None), row("1"))
        self.assert_rows(before, "[net]\n[log]\nlevel = 1", row(None, "own", "81"), row(None), row("1"))

    def test_held_slot_without_a_value(self):
        before = State(1, (row(None, "held", "81"), row(None), row("1")))
        self.assert_rows(before, "[net]\n[log]\nlevel = 1", *before.rows)
        self.assert_rows(before, SECOND, row("81"), row(None), row("1"))
        self.assert_rows(before, SECOND.replace("81", "7"), row("7", "own", "81"), row(None), row("1"))

    def test_kept_lines_that_are_new(self):
        for line, value in [("#~ 0 net.host = all", "all"), ("#~ 0 net.host = any", "any"), ("#~ 0 net.host", None)]:
            for new in [SECOND + "\n" + line, line + "\n" + SECOND, SECOND.replace("[log]", line + "\n[log]")]:
                self.assert_rows(LATER, new, row("81"), row(value, "own"), row("1"))

    def test_kept_lines_that_are_gone(self):
        for value in ["all", None]:
            before = State(1, (row("81"), row(value, "own", "any"), row("1")))
            self.assert_rows(before, SECOND, *LATER.rows)

    def test_kept_lines_that_change(self):
        lines = {"all": "#~ 0 net.host = all", "x": "#~ 0 net.host = x", None: "#~ 0 net.host"}
        for value in lines:
            for other in lines:
                before = State(1, (row("81"), row(value, "own", "any"), row("1")))
                self.assert_rows(before, lines[other] + "\n" + SECOND, row("81"), row(other, "own", "any"), row("1"))

    def test_kept_line_with_what_was_overruled(self):
        before = State(1, (row("81"), row("all", "own", "any", "x"), row("1")))
        new = SECOND + "\n#~ 0 net.host = x"
        self.assert_rows(before, new, row("81"), row("x", "own", "any"), row("1"))

    def test_kept_line_names_the_greatest_release_that_has_the_slot(self):
        history = History(
            Release(text("a.x=1")), Release(text("a.y=1"), renames=[("a.x", "a.y")]), Release("[a]"), Release("[a]"),
            Release(text("a.z=1"), returns=[(0, "a.x", "a.z")]), Release("[a]"))
        for release in [2, 3, 5]:
            fresh = State.fresh(history, release)
            self.assert_rows(fresh, "#~ 4 a.z = 3", row("3", "own"), history=history)
            for line in ["#~ 0 a.x", "#~ 1 a.y", "#~ 1 a.y = 3", "#~ 4 a.y", "#~ 5 a.z", "#~ 2 a.y", "#~ 99 a.z"]:
                self.assert_bad(fresh, line, 0, "kept", history=history)
        for release in [0, 1, 4]:
            self.assert_bad(State.fresh(history, release), "#~ 4 a.z = 3", 0, "kept", history=history)

    def assert_bad(self, state, new, line, kind, history=HISTORY):
        before = (state.release, state.rows, state.rules)
        with self.subTest(new=new), self.assertRaises(BadEdit) as caught:
            edited(history, state, new)
        self.assertEqual((caught.exception.line, caught.exception.kind), (line, kind))
        self.assertEqual((state.release, state.rows, state.rules), before)

    def test_bad_sections(self):
        self.assert_bad(FRESH, "[ui]", 0, "section")
        self.assert_bad(FRESH, FIRST + "\n\n[ui]\n# x", 6, "section")
        self.assert_bad(LATER, "# x\n[net]\n[web]\n[ui]", 2, "section")
        self.assert_rows(LATER, "[ui]\n" + SECOND.replace("\n[ui]", ""), *LATER.rows)

    def test_bad_places(self):
        self.assert_bad(FRESH, "[net]\nport = 80\ngate = 81", 2, "place")
        self.assert_bad(LATER, "[net]\nport = 80\ngate = 81", 1, "place")
        self.assert_bad(LATER, SECOND + "\nlevel = 1", 5, "place")
        self.assert_bad(LATER, SECOND + "\nhost = any", 5, "place")
        self.assert_bad(FRESH, "[log]\nport = 80", 1, "place")

    def test_bad_kept_lines(self):
        self.assert_bad(FRESH, FIRST + "\n#~ 0 net.host = any", 5, "kept")
        self.assert_bad(FRESH, "#~ 1 net.gate = 81\n" + FIRST, 0, "kept")
        self.assert_bad(LATER, "#~ 0 net.port = 80", 0, "kept")
        self.assert_bad(LATER, "#~ 1 net.gate", 0, "kept")
        for line in ["#~ 0 net.hos", "#~ 1 net.host", "#~ 2 net.host = any", "#~ 7 net.host", "#~ 99 net.host"]:
            self.assert_bad(LATER, SECOND + "\n" + line, 5, "kept")

    def test_the_first_of_several_bad_lines(self):
        lines = {"section": "[web]", "place": "x = 1", "kept": "#~ 9 a.b"}
        head = "# x\n[net]\ngate = 81"
        for first in lines:
            for second in lines:
                if first != second:
                    self.assert_bad(LATER, "%s\n%s\n\n%s" % (head, lines[first], lines[second]), 3, first)
        # A place in a section that is not allowed comes behind its header.
        self.assert_bad(LATER, "[web]\ngate = 1", 0, "section")

    def test_bad_texts(self):
        for new, line, kind in [("x", 0, "line"), ("a = 1", 0, "outside"), ("[web]\n[web]", 1, "section"),
                                ("[net]\nport = 1\nport = 2", 2, "key"), ("#~ x", 0, "kept"),
                                ("#~ 9 a.b\n#~ 9 a.b", 1, "again"), ("[web]\nx = 1\n ", 2, "line")]:
            with self.subTest(new), self.assertRaises(BadText) as caught:
                edited(HISTORY, FRESH, new)
            self.assertEqual((caught.exception.line, caught.exception.kind), (line, kind))
        for thing in NO_STRINGS:
            with self.subTest(thing), self.assertRaises(BadText) as caught:
                edited(HISTORY, FRESH, thing)
            self.assertEqual((caught.exception.line, caught.exception.kind), (-1, "text"))


class ExcludedTest(unittest.TestCase):
    HISTORY = History(
        Release(text("a.w=1", "a.x=1", "a.y=1", "a.z=1")), Release(text("a.w=1", "a.x=1")),
        exclusions=[
            ((0, "a.z", "2"), (0, "a.x", "2")), ((0, "a.y", "2"), (0, "a.x", "3")), ((0, "a.y", "2"), (0, "a.w", "2")),
            ((0, "a.z", "3"), (0, "a.y", "2")), ((0, "a.w", "2"), (0, "a.z", "3")),
        ])

    def edit(self, *values, release=0, kept=()):
        keys = "wxyz"[:len(values)]
        new = text(*["a.%s=%s" % pair for pair in zip(keys, values)])
        return edited(self.HISTORY, State.fresh(self.HISTORY, release), "\n".join([new, *kept]))

    def assert_excluded(self, slot, other, *values, release=0, kept=()):
        with self.subTest(values=values), self.assertRaises(Excluded) as caught:
            self.edit(*values, release=release, kept=kept)
        self.assertEqual((caught.exception.slot, caught.exception.other), (slot, other))

    def test_one_pair(self):
        self.assert_excluded(1, 3, "1", "2", "1", "2")
        self.assert_excluded(1, 2, "1", "3", "2", "1")
        self.assert_excluded(0, 2, "2", "1", "2", "1")
        self.assert_excluded(2, 3, "1", "1", "2", "3")

    def test_the_least_pair(self):
        self.assert_excluded(1, 2, "1", "3", "2", "3")
        self.assert_excluded(0, 2, "2", "3", "2", "3")
        self.assert_excluded(0, 2, "2", "1", "2", "3")
        self.assert_excluded(0, 3, "2", "1", "1", "3")

    def test_values_that_do_not_meet(self):
        for values in ["1111", "2231", "1233", "1121", "1132", "2312"]:
            self.assertEqual(self.edit(*values).settings(), list(values))

    def test_kept_values_count(self):
        self.assert_excluded(1, 3, "1", "2", release=1, kept=["#~ 0 a.z = 2"])
        self.assert_excluded(2, 3, "1", "1", release=1, kept=["#~ 0 a.z = 3", "#~ 0 a.y = 2"])
        self.assertEqual(self.edit("1", "2", release=1, kept=["#~ 0 a.z"]).settings(), ["1", "2", None, None])
        self.assertEqual(self.edit("1", "2", release=1, kept=["#~ 0 a.z = 3"]).settings(), ["1", "2", None, "3"])

    def test_bad_lines_come_first(self):
        state = State.fresh(self.HISTORY)
        with self.assertRaises(BadEdit):
            edited(self.HISTORY, state, text("a.w=2", "a.y=2", "a.q=1"))
        with self.assertRaises(BadText):
            edited(self.HISTORY, state, text("a.w=2", "a.y=2") + "\nq")

    def test_the_state_stays_as_it_is(self):
        state = State.fresh(self.HISTORY)
        with self.assertRaises(Excluded):
            edited(self.HISTORY, state, text("a.w=2", "a.y=2"))
        self.assertEqual(state, State.fresh(self.HISTORY))


if __name__ == "__main__":
    unittest.main()
