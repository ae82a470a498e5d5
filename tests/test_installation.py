"""Installations and their deeds: edits, puts, follows, rules and jumps [8 to 20]."""

import unittest

from settingsmerge.errors import (
    BadAnswer, BadEdit, BadText, Excluded, NoPlace, NoRelease, NoRule, NoSlot, NotOwn, Unanswered,
)
from settingsmerge.history import History, Release
from settingsmerge.installation import Installation
from settingsmerge.merging import Question
from settingsmerge.states import State
from things import NO_NUMBERS_BELOW_THREE, NO_STRINGS, ODD_STRINGS, text

ALL, NET = ("all", ""), ("section", "net")

# Slot 0 is the port, 1 the host, 2 the level; release 1 calls the port a gate and lacks the host, which comes back.
HISTORY = History(
    Release("# Ports.\n[net]\nport = 80\nhost = any\n[log]\nlevel = 1"),
    Release("[net]\ngate = 81\n[log]\nlevel = 1", renames=[("net.port", "net.gate")]),
    Release("[net]\ngate = 82\nhost = all\n[log]\nlevel = 2", returns=[(0, "net.host", "net.host")]),
)
FIRST = HISTORY.shipped_text(0)
# The user's x = 3 excludes the y = 2 of release 1, and that the user's z = 3; a release ships neither 3.
TIGHT = History(
    Release(text("a.x=1", "a.y=1", "a.z=1")), Release(text("a.x=1", "a.y=2", "a.z=1")),
    exclusions=[((0, "a.x", "3"), (0, "a.y", "2")), ((0, "a.z", "3"), (0, "a.y", "2")), ((0, "a.x", "1"), (0, "a.z", "4"))],
)


def row(value, status="follows", *overruled):
    return (value, status, overruled)


def held_box():
    """An installation in which y is held back at 1 by x = 3."""
    box = Installation(TIGHT)
    box.put("a.x", "3")
    box.jump(1, answers=[True])
    return box


class InstallationTest(unittest.TestCase):
    def assert_box(self, box, shown, *rows, rules=None):
        self.assertEqual(box.text, shown)
        self.assertEqual(box.state.rows, rows)
        if rules is not None:
            self.assertEqual(box.state.rules, rules)

    def assert_refused(self, box, error, function, **fields):
        """The call raises the error with these fields and changes nothing."""
        before = (box.text, box.state.release, box.state.rows, box.state.rules, box.journal(), len(box))
        with self.assertRaises(error) as caught:
            function()
        self.assertIs(type(caught.exception), error)
        self.assertEqual(vars(caught.exception), fields)
        self.assertEqual((box.text, box.state.release, box.state.rows, box.state.rules, box.journal(), len(box)), before)


class BeginningTest(InstallationTest):
    def test_examples(self):
        history = History(Release("[net]\nport = 80\nhost = any"), Release("[net]\nport = 81\nhost = any"))
        box = Installation(history)
        self.assertIsNone(box.put("net.port", "90"))
        self.assert_refused(box, Unanswered, lambda: box.jump(1), claim=(0, "own"))
        self.assertEqual(box.jump(1, answers=[True]), [(0, ("answers", (0,)))])
        self.assertEqual(
            [box.text, box.state.rows],
            ["[net]\nport = 90\nhost = any", (("90", "own", ("80", "81")), ("any", "follows", ()))])
        history = History(
            Release("[a]\nx = 1\ny = 1"), Release("[a]\nx = 1\ny = 2"),
            exclusions=[((0, "a.x", "3"), (0, "a.y", "2"))])
        box = Installation(history)
        self.assertIsNone(box.put("a.x", "3"))
        self.assertEqual(box.jump(1, answers=[True]), [(0, ("answers", (0,))), (1, ("held", (0, 1)))])

    def test_fresh_with_the_shipped_text(self):
        for release in range(3):
            box = Installation(HISTORY, release)
            self.assertEqual(box.text, HISTORY.shipped_text(release))
            self.assertEqual(box.state, State.fresh(HISTORY, release))
            self.assertIs(type(box.state), State)
            self.assertEqual((box.journal(), len(box)), ([], 0))
        self.assertEqual(Installation(HISTORY), Installation(HISTORY, 0))
        self.assertEqual(Installation(History(Release(""))).text, "")

    def test_attributes_are_set_at_once(self):
        self.assertLessEqual({"text", "state"}, set(vars(Installation(HISTORY))))

    def test_no_release(self):
        for thing in NO_NUMBERS_BELOW_THREE:
            with self.subTest(thing=thing), self.assertRaises(NoRelease) as caught:
                Installation(HISTORY, thing)
            self.assertIs(caught.exception.release, thing)

    def test_equal(self):
        one, two = Installation(HISTORY), Installation(HISTORY)
        self.assertTrue(one == two)
        one.put("net.port", "90")
        self.assertFalse(one == two)
        self.assertTrue(one != two)
        two.edit(one.text)
        self.assertTrue(one == two)
        # The journals do not count, the texts and the states with their rules do.
        two.edit(two.text)
        self.assertTrue(one == two)
        two.edit(two.text + "\n")
        self.assertFalse(one == two)
        two.undo()
        two.rule("own")
        self.assertFalse(one == two)
        two.rule(None)
        self.assertTrue(one == two)

    def test_equal_texts_of_different_states(self):
        one, two = Installation(HISTORY), Installation(HISTORY, 2)
        one.put("net.port", "82")
        one.jump(2)
        self.assertEqual(one.text.split("\n"), two.text.split("\n"))
        self.assertFalse(one == two)

    def test_equals_nothing_else(self):
        box = Installation(HISTORY)
        for other in NO_STRINGS + ODD_STRINGS + [box.text, box.state, HISTORY, (box.text, box.state)]:
            self.assertIs(box == other, False)
            self.assertIs(other == box, False)

    def test_a_state_that_is_changed_afterwards(self):
        one, two = Installation(HISTORY), Installation(HISTORY)
        one.state.rows = ()
        self.assertEqual(two.state, State.fresh(HISTORY))
        self.assertEqual(Installation(HISTORY).state, State.fresh(HISTORY))
        two.put("net.port", "90")
        first = two.state
        two.jump(1, answers=[True])
        first.release, first.rows, first.rules = 2, (), ((ALL, "own"),)
        self.assertEqual(two.state.rows[0], row("90", "own", "80", "81"))
        two.undo()
        self.assertEqual((two.state.release, two.state.rows[0], two.state.rules), (0, row("90", "own", "80"), ()))


class EditsTest(InstallationTest):
    def test_an_edit_keeps_its_text_as_it_is(self):
        box = Installation(HISTORY)
        for new in ["\n\n[log]\n# x\n[net]\nhost = any", "", "# only", FIRST, FIRST.replace("80", "7")]:
            self.assertIsNone(box.edit(new))
            self.assertEqual(box.text, new)
            self.assertEqual(box.journal()[-1], ("edit", new))
        self.assert_box(box, FIRST.replace("80", "7"), row("7", "own", "80"), row("any"), row("1"))

    def test_an_edit_that_changes_nothing_is_a_deed(self):
        box = Installation(HISTORY)
        box.edit(FIRST)
        self.assertEqual((box, len(box), box.journal()), (Installation(HISTORY), 1, [("edit", FIRST)]))

    def test_kept_lines(self):
        box = Installation(HISTORY, 1)
        box.edit("#~ 2 net.host = me\n[net]\ngate = 81\n[log]\nlevel = 1")
        self.assertEqual(box.state.rows[1], row("me", "own"))
        box.jump(2, answers=[True])
        self.assertEqual(box.text, "[net]\ngate = 82\nhost = me\n[log]\nlevel = 2")

    def test_bad_texts(self):
        box = Installation(HISTORY)
        box.put("net.port", "90")
        for thing in NO_STRINGS:
            self.assert_refused(box, BadText, lambda: box.edit(thing), line=-1, kind="text")
        self.assert_refused(box, BadText, lambda: box.edit("[net]\nport=80"), line=1, kind="line")
        self.assert_refused(box, BadText, lambda: box.edit("port = 80"), line=0, kind="outside")
        self.assert_refused(box, BadEdit, lambda: box.edit("[net]\n[ui]"), line=1, kind="section")
        self.assert_refused(box, BadEdit, lambda: box.edit("[net]\ngate = 1"), line=1, kind="place")
        self.assert_refused(box, BadEdit, lambda: box.edit("#~ 0 net.port = 1"), line=0, kind="kept")

    def test_excluded_values(self):
        box = Installation(TIGHT)
        new = text("a.x=3", "a.y=2", "a.z=3")
        self.assert_refused(box, Excluded, lambda: box.edit(new), slot=0, other=1)
        self.assert_refused(box, Excluded, lambda: box.edit(new.replace("x = 3", "x = 2")), slot=1, other=2)


class PutsTest(InstallationTest):
    def test_a_value_that_changes(self):
        box = Installation(HISTORY)
        self.assertIsNone(box.put("net.port", "90"))
        self.assert_box(box, FIRST.replace("80", "90"), row("90", "own", "80"), row("any"), row("1"))
        box.put("net.port", "91")
        self.assert_box(box, FIRST.replace("80", "91"), row("91", "own", "80"), row("any"), row("1"))
        box.put("net.port", "80")
        self.assert_box(box, FIRST, *State.fresh(HISTORY).rows)

    def test_none(self):
        box = Installation(HISTORY)
        box.put("net.host", None)
        self.assert_box(box, FIRST.replace("host = any\n", ""), row("80"), row(None, "own", "any"), row("1"))
        box.put("net.host", None)
        self.assertEqual(len(box), 2)
        box.put("net.host", "any")
        self.assert_box(box, FIRST, *State.fresh(HISTORY).rows)

    def test_the_text_is_written_anew(self):
        box = Installation(HISTORY)
        box.edit("[log]\n# mine\nlevel = 1\n\n[net]\nhost = any\nport = 80\n# end")
        box.put("net.host", "me")
        self.assertEqual(box.text, "\n[net]\nhost = me\nport = 80\n[log]\n# mine\nlevel = 1\n# end")

    def test_the_text_stays_if_the_value_is_there_already(self):
        box = Installation(HISTORY)
        odd = "[log]\n# mine\nlevel = 1\n\n[net]\nhost = any\n# end"
        box.edit(odd)
        for place, value in [("net.host", "any"), ("net.port", None), ("log.level", "1")]:
            before = box.state
            self.assertIsNone(box.put(place, value))
            self.assertEqual((box.text, box.state, box.journal()[-1]), (odd, before, ("edit", odd)))
        self.assertEqual(len(box), 4)

    def test_kept_lines_stay(self):
        box = Installation(HISTORY, 1)
        box.edit("#~ 2 net.host\n[net]\ngate = 81\n[log]\nlevel = 1")
        box.put("log.level", "5")
        self.assert_box(box, "[net]\ngate = 81\n[log]\nlevel = 5\n#~ 2 net.host",
                        row("81"), row(None, "own"), row("5", "own", "1"))

    def test_the_place_of_the_present_release(self):
        box = Installation(HISTORY)
        self.assert_refused(box, NoPlace, lambda: box.put("net.gate", "1"), place="net.gate")
        box.jump(1)
        self.assert_refused(box, NoPlace, lambda: box.put("net.port", "1"), place="net.port")
        self.assert_refused(box, NoPlace, lambda: box.put("net.host", "1"), place="net.host")
        box.put("net.gate", "1")
        self.assertEqual(box.state.rows[0], row("1", "own", "81"))

    def test_no_place(self):
        box = Installation(HISTORY)
        for thing in NO_STRINGS + ODD_STRINGS + ["net", "net.", "net.port ", "Net.port", "ui.port", 0]:
            self.assert_refused(box, NoPlace, lambda: box.put(thing, "1"), place=thing)
            self.assert_refused(box, NoPlace, lambda: box.put(thing, None), place=thing)

    def test_excluded(self):
        box = Installation(TIGHT, 1)
        self.assert_refused(box, Excluded, lambda: box.put("a.x", "3"), slot=0, other=1)
        self.assert_refused(box, Excluded, lambda: box.put("a.z", "3"), slot=1, other=2)
        self.assert_refused(box, Excluded, lambda: box.put("a.z", "4"), slot=0, other=2)
        box.put("a.y", None)
        box.put("a.x", "3")
        self.assert_refused(box, Excluded, lambda: box.put("a.y", "2"), slot=0, other=1)

    def test_a_held_slot(self):
        box = held_box()
        self.assertEqual(box.state.rows[1], row("1", "held", "2"))
        before = box.text
        box.put("a.y", "1")
        self.assertEqual((box.state.rows[1], box.text), (row("1", "held", "2"), before))
        box.put("a.y", "4")
        self.assertEqual(box.state.rows[1], row("4", "own", "2"))
        self.assert_refused(box, Excluded, lambda: box.put("a.y", "2"), slot=0, other=1)
        box.put("a.x", "1")
        box.put("a.y", "2")
        self.assertEqual(box.state.rows, State.fresh(TIGHT, 1).rows)


class FollowsTest(InstallationTest):
    def test_a_changed_value(self):
        box = Installation(HISTORY)
        box.put("net.port", "90")
        box.put("log.level", None)
        self.assertIsNone(box.follow(0))
        self.assert_box(box, FIRST.replace("level = 1", "").rstrip("\n"), row("80"), row("any"), row(None, "own", "1"))
        box.follow(2)
        self.assert_box(box, FIRST, *State.fresh(HISTORY).rows)
        self.assertEqual(box.journal()[2:], [("follow", 0), ("follow", 2)])

    def test_the_text_is_written_anew_even_if_the_value_stays(self):
        history = History(Release(text("a.x=1", "a.y=1")), Release(text("a.x=2", "a.y=1")))
        box = Installation(history)
        box.edit("[a]\ny = 1\nx = 2")
        box.jump(1)
        self.assertEqual(box.state.rows[0], row("2", "own", "1"))
        box.edit("# mine\n\n[a]\ny = 1\nx = 2")
        box.follow(0)
        self.assert_box(box, "# mine\n\n[a]\ny = 1\nx = 2", row("2"), row("1"))

    def test_a_kept_line(self):
        for line, value in [("#~ 2 net.host = me", "me"), ("#~ 2 net.host", None)]:
            box = Installation(HISTORY, 1)
            box.edit(line + "\n[log]\nlevel = 1\n[net]\ngate = 81")
            self.assertEqual(box.state.rows[1], row(value, "own"))
            box.follow(1)
            self.assert_box(box, HISTORY.shipped_text(1), row("81"), row(None), row("1"))

    def test_an_only_blank_line_is_the_empty_string(self):
        box = Installation(History(Release("[a]\nx = 1"), Release("")), 1)
        box.edit("\n#~ 0 a.x = 3")
        box.jump(1)
        self.assertEqual(box.text, "\n#~ 0 a.x = 3")
        box.follow(0)
        self.assertEqual(box.text, "")

    def test_no_slot(self):
        box = Installation(HISTORY)
        for thing in NO_NUMBERS_BELOW_THREE:
            self.assert_refused(box, NoSlot, lambda: box.follow(thing), slot=thing)

    def test_not_own(self):
        box = held_box()
        for slot in [1, 2]:
            self.assert_refused(box, NotOwn, lambda: box.follow(slot), slot=slot)
        box = Installation(HISTORY, 1)
        for slot in [0, 1, 2]:
            self.assert_refused(box, NotOwn, lambda: box.follow(slot), slot=slot)

    def test_excluded(self):
        box = Installation(TIGHT)
        box.put("a.x", "2")
        box.put("a.z", "4")
        self.assert_refused(box, Excluded, lambda: box.follow(0), slot=0, other=2)
        box.follow(2)
        box.follow(0)
        self.assertEqual(box, Installation(TIGHT))

    def test_what_was_held_stays_held_until_a_jump(self):
        box = held_box()
        box.follow(0)
        self.assertEqual(box.state.rows, (row("1"), row("1", "held", "2"), row("1")))
        self.assertEqual(box.jump(1), [(1, ("free",))])
        self.assertEqual(box.state, State.fresh(TIGHT, 1))


class RulesTest(InstallationTest):
    def test_scopes(self):
        box = Installation(HISTORY)
        self.assertIsNone(box.rule("own"))
        box.rule("shipped", place="net.host")
        box.rule("own", section="net")
        # A section that no release has is a name as well.
        box.rule("shipped", section="zzz")
        self.assertEqual(box.state.rules, (
            (ALL, "own"), (NET, "own"), (("section", "zzz"), "shipped"), (("setting", 1), "shipped")))
        self.assertEqual(box.journal(), [
            ("rule", "own", ALL), ("rule", "shipped", ("setting", 1)), ("rule", "own", NET),
            ("rule", "shipped", ("section", "zzz"))])
        self.assertEqual((box.text, box.state.rows), (FIRST, State.fresh(HISTORY).rows))

    def test_the_place_comes_before_the_section(self):
        box = Installation(HISTORY)
        box.rule("own", place="log.level", section="net")
        self.assertEqual(box.state.rules, ((("setting", 2), "own"),))
        box.rule("own", section="log", place="net.port")
        self.assertEqual(box.state.rules, ((("setting", 0), "own"), (("setting", 2), "own")))

    def test_replaced_and_removed(self):
        box = Installation(HISTORY)
        for told in [{}, {"section": "net"}, {"place": "net.port"}]:
            for word in ["own", "shipped", "shipped", "own"]:
                box.rule(word, **told)
                self.assertEqual([each for scope, each in box.state.rules], [word])
            self.assertIsNone(box.rule(None, **told))
            self.assertEqual(box.state.rules, ())
            box.rule(None, **told)
            self.assertEqual(box.state.rules, ())
        self.assertEqual(len(box), 18)

    def test_the_text_stays_as_it_is(self):
        box = Installation(HISTORY)
        odd = "[log]\n\n[net]\n# x\nhost = me"
        box.edit(odd)
        box.rule("own")
        box.rule("shipped", place="net.port")
        self.assertEqual(box.text, odd)

    def test_places_of_the_present_release(self):
        box = Installation(HISTORY, 1)
        box.rule("own", place="net.gate")
        self.assertEqual(box.state.rules, ((("setting", 0), "own"),))
        self.assert_refused(box, NoPlace, lambda: box.rule("own", place="net.port"), place="net.port")
        self.assert_refused(box, NoPlace, lambda: box.rule("own", place="net.host"), place="net.host")

    def test_no_place(self):
        box = Installation(HISTORY)
        for thing in [each for each in NO_STRINGS if each is not None] + ODD_STRINGS + ["net", "net.gate"]:
            self.assert_refused(box, NoPlace, lambda: box.rule("own", place=thing), place=thing)
            self.assert_refused(box, NoPlace, lambda: box.rule("wrong", place=thing, section="net"), place=thing)

    def test_no_rule(self):
        box = Installation(HISTORY)
        for thing in [each for each in NO_STRINGS if each is not None] + ODD_STRINGS + ["Own", "own ", "held", ["own"]]:
            for told in [{}, {"section": "net"}, {"place": "net.port"}]:
                self.assert_refused(box, NoRule, lambda: box.rule(thing, **told), word=thing)

    def test_words_and_scopes_by_position(self):
        box = Installation(HISTORY)
        with self.assertRaises(TypeError):
            box.rule("own", "net.port")
        self.assertEqual(len(box), 0)

    def test_rules_go_along_and_withdraw_claims(self):
        for told, scope in [({}, ALL), ({"section": "net"}, NET), ({"place": "net.port"}, ("setting", 0))]:
            for word, first in [("own", row("90", "own", "80", "81")), ("shipped", row("81"))]:
                box = Installation(HISTORY)
                box.put("net.port", "90")
                box.rule(word, **told)
                self.assertEqual(box.jump(1), [(0, ("rule", scope)), (1, ("free",))])
                self.assertEqual((box.state.rows[0], box.state.rules), (first, ((scope, word),)))

    def test_a_rule_that_was_removed_is_asked_about_again(self):
        box = Installation(HISTORY)
        box.put("net.port", "90")
        box.rule("own")
        box.rule(None)
        self.assert_refused(box, Unanswered, lambda: box.jump(1), claim=(0, "own"))


class JumpsTest(InstallationTest):
    def changed(self, release=0):
        box = Installation(HISTORY, release)
        for place in ["net.port", "net.host", "log.level"]:
            box.put(place, "9")
        return box

    def test_without_changes(self):
        for start in range(3):
            for to in range(3):
                box = Installation(HISTORY, start)
                report = box.jump(to)
                self.assertEqual(box, Installation(HISTORY, to))
                self.assertEqual(report, [(slot, ("free",)) for slot in range(3)
                                          if HISTORY.shipped_value(slot, start) != HISTORY.shipped_value(slot, to)])
                self.assertEqual(box.journal(), [("jump", to, ())])

    def test_lists_tuples_and_functions(self):
        for answers in [(True, True, True), (True, False, True), (False, False, False), (False, True, False)]:
            boxes = [self.changed() for _ in range(3)]
            left, asked = list(answers), []

            def function(question):
                asked.append(question)
                return left.pop(0)

            given = list(answers)
            reports = [boxes[0].jump(2, answers=given), boxes[1].jump(2, answers=answers),
                       boxes[2].jump(2, answers=function)]
            self.assertEqual(given, list(answers))
            self.assertEqual(reports[0], reports[1])
            self.assertEqual(reports[0], reports[2])
            self.assertEqual(reports[0], [(slot, ("answers", (slot,))) for slot in range(3)])
            for box in boxes:
                self.assertEqual(box, boxes[0])
                self.assertEqual(box.journal()[-1], ("jump", 2, answers))
                self.assertIs(type(box.journal()[-1][2]), tuple)
            self.assertEqual([question.claim for question in asked], [(slot, "own") for slot in range(3)])
            self.assertEqual([(q.present, q.coming) for q in asked], [("9", "82"), ("9", "all"), ("9", "2")])
            for question in asked:
                self.assertIs(type(question), Question)

    def test_an_object_that_can_be_called(self):
        class Yes:
            def __call__(self, question):
                return question.claim[0] != 1

        box = self.changed()
        box.jump(2, answers=Yes())
        self.assertEqual(box.journal()[-1], ("jump", 2, (True, False, True)))

    def test_up_down_and_over_several(self):
        box = self.changed()
        self.assertEqual(box.jump(1, answers=[True]), [(0, ("answers", (0,))), (1, ("free",)), (2, ("overruled",))])
        self.assert_box(box, "[net]\ngate = 9\n[log]\nlevel = 9\n#~ 2 net.host = 9",
                        row("9", "own", "80", "81"), row("9", "own", "any"), row("9", "own", "1"))
        self.assertEqual(box.jump(0), [(0, ("overruled",)), (1, ("overruled",)), (2, ("overruled",))])
        self.assertEqual(box.text, self.changed().text)
        self.assertEqual(box.jump(2, answers=[False, True, False]), [
            (0, ("answers", (0,))), (1, ("answers", (1,))), (2, ("answers", (2,)))])
        self.assert_box(box, "[net]\ngate = 82\nhost = 9\n[log]\nlevel = 2",
                        row("82"), row("9", "own", "all", "any"), row("2"))

    def test_answers_that_are_not_needed_are_not_looked_at(self):
        for surplus in [[None], ["x", 1], [[]], [True, 0], [()]]:
            for kind in [list, tuple]:
                box = self.changed()
                box.jump(2, answers=kind([True, False, True] + surplus))
                self.assertEqual(box.journal()[-1], ("jump", 2, (True, False, True)))
                box.jump(2, answers=kind(surplus))
                self.assertEqual(box.journal()[-1], ("jump", 2, ()))

    def test_too_few_answers(self):
        box = self.changed()
        self.assert_refused(box, Unanswered, lambda: box.jump(2), claim=(0, "own"))
        for answers in [[], [True], [False, True]]:
            for given in [list(answers), tuple(answers)]:
                self.assert_refused(box, Unanswered, lambda: box.jump(2, answers=given), claim=(len(given), "own"))

    def test_an_answer_that_is_no_boolean(self):
        box = self.changed()
        wrong = [thing for thing in NO_STRINGS if thing is not True and thing is not False]
        for thing in wrong + ODD_STRINGS + ["True", "stands", box]:
            for before in [[], [True], [False, False]]:
                self.assert_refused(box, BadAnswer, lambda: box.jump(2, answers=before + [thing]), answer=thing)
                self.assert_refused(box, BadAnswer, lambda: box.jump(2, answers=tuple(before) + (thing,)), answer=thing)
                left = before + [thing]
                self.assert_refused(box, BadAnswer, lambda: box.jump(2, answers=lambda q: left.pop(0)), answer=thing)

    def test_the_first_question_at_which_an_error_applies_decides(self):
        box = self.changed()
        self.assert_refused(box, BadAnswer, lambda: box.jump(2, answers=[None]), answer=None)
        self.assert_refused(box, BadAnswer, lambda: box.jump(2, answers=[True, 0, None]), answer=0)
        self.assert_refused(box, Unanswered, lambda: box.jump(2, answers=[True]), claim=(1, "own"))

    def test_a_function_that_raises(self):
        for many in range(3):
            for error in [KeyError, ValueError, Unanswered, NoRelease, KeyboardInterrupt]:
                asked = []

                def function(question):
                    asked.append(question)
                    if len(asked) > many:
                        raise error("why")
                    return True

                box = self.changed()
                before = (box.text, box.state, box.journal())
                with self.assertRaises(error):
                    box.jump(2, answers=function)
                self.assertEqual(len(asked), many + 1)
                self.assertEqual((box.text, box.state, box.journal()), before)
                box.jump(2, answers=[True] * 3)

    def test_a_function_is_called_only_with_questions(self):
        def function(question):
            raise AssertionError

        box = Installation(HISTORY)
        box.jump(2, answers=function)
        self.assertEqual(box, Installation(HISTORY, 2))

    def test_a_function_that_changes_its_question(self):
        def function(question):
            question.claim, question.present, question.coming = (2, "shipped"), None, None
            return True

        one, two = self.changed(), self.changed()
        one.jump(2, answers=function)
        two.jump(2, answers=[True] * 3)
        self.assertEqual((one, one.journal()), (two, two.journal()))

    def test_answers_that_are_changed_afterwards(self):
        box, answers = self.changed(), [True, False, True]
        box.jump(2, answers=answers)
        answers.clear()
        self.assertEqual(box.journal()[-1], ("jump", 2, (True, False, True)))

    def test_a_report_that_is_changed_afterwards(self):
        box = self.changed()
        box.jump(2, answers=[True] * 3).clear()
        self.assertEqual(box.trace(0), [(0, ("edit",)), (3, ("answers", (0,)))])

    def test_no_release(self):
        box = self.changed()
        for thing in NO_NUMBERS_BELOW_THREE:
            self.assert_refused(box, NoRelease, lambda: box.jump(thing), release=thing)
            self.assert_refused(box, NoRelease, lambda: box.jump(thing, answers=[None]), release=thing)

    def test_answers_by_position(self):
        with self.assertRaises(TypeError):
            self.changed().jump(2, [True] * 3)

    def test_to_the_same_release_asks_nothing(self):
        box = self.changed()
        for release in [0, 1, 1, 2, 2, 0, 0]:
            box.jump(release, answers=lambda question: True)
            before = box.state
            self.assertEqual(box.jump(release), [
                (slot, ("overruled",)) if HISTORY.shipped_value(slot, release) else (slot, ("free",)) for slot in range(3)])
            self.assertEqual((box.state, box.journal()[-1]), (before, ("jump", release, ())))

    def test_to_the_same_release_writes_the_text_anew(self):
        box = Installation(HISTORY)
        box.edit("[log]\nlevel = 1\n[net]\nhost = any\n# p\nport = 80")
        self.assertEqual(box.jump(0), [])
        self.assertEqual(box.text, "[net]\nhost = any\n# p\nport = 80\n[log]\nlevel = 1")

    def test_to_the_same_release_lets_go(self):
        box = held_box()
        self.assertEqual(box.jump(1), [(0, ("overruled",)), (1, ("held", (0, 1)))])
        self.assertEqual(box.state.rows[1], row("1", "held", "2"))
        box.put("a.x", "7")
        self.assertEqual(box.state.rows[1], row("1", "held", "2"))
        self.assertEqual(box.jump(1), [(0, ("overruled",)), (1, ("free",))])
        self.assert_box(box, text("a.x=7", "a.y=2", "a.z=1"), row("7", "own", "1"), row("2"), row("1"))


if __name__ == "__main__":
    unittest.main()
