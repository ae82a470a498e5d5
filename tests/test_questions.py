"""Questions, which do not change while the merge goes on [14]."""

import unittest

from settingsmerge.history import History, Release
from settingsmerge.merging import Merge, Question
from settingsmerge.states import State
from things import NO_STRINGS, ODD_STRINGS, text


def merge(rows=("3", "1", "3", "1"), later="2222", exclusions=("w3x2", "y3z2"), rules=()):
    """A jump in which the values 3 are changes of the user."""
    told = [((0, "a." + e[0], e[1]), (0, "a." + e[2], e[3])) for e in exclusions]
    history = History(
        Release(text(*["a.%s=1" % key for key in "wxyz"])),
        Release(text(*["a.%s=%s" % pair for pair in zip("wxyz", later)])), exclusions=told)
    made = [(value, "own", ("1",)) if value == "3" else (value, "follows", ()) for value in rows]
    return Merge(history, State(0, made, rules=rules), 1)


class QuestionsTest(unittest.TestCase):
    def test_attributes(self):
        question = merge().question
        self.assertIsInstance(question, Question)
        self.assertEqual((question.claim, question.present, question.coming), ((0, "own"), "3", "2"))
        self.assertEqual(question.falling(True), [(0, "shipped"), (1, "shipped")])
        self.assertEqual(question.falling(False), [(0, "own")])

    def test_falling_returns_new_lists(self):
        question = merge().question
        for stands in [True, False]:
            before = question.falling(stands)
            question.falling(stands).append(None)
            question.falling(stands).clear()
            self.assertEqual(question.falling(stands), before)

    def test_falling_tells_what_falls(self):
        for stands in [True, False]:
            jump = merge()
            while jump.question:
                before, falling = jump.claims, jump.question.falling(stands)
                self.assertEqual(falling, sorted(falling))
                jump.reply(stands)
                self.assertEqual(jump.claims, [claim for claim in before if claim not in falling])

    def test_only_conflicts_that_are_left_count(self):
        # The first answer makes the new value of z fall, so that it falls no more by the second one.
        jump = merge(rows=("3", "3", "1", "1"), exclusions=("w3z2", "x3z2"))
        self.assertEqual(jump.question.falling(True), [(0, "shipped"), (3, "shipped")])
        jump.reply(True)
        self.assertEqual(jump.question.claim, (1, "own"))
        self.assertEqual(jump.question.falling(True), [(1, "shipped")])
        other = merge(rows=("3", "3", "1", "1"), exclusions=("w3z2", "x3z2"))
        other.reply(False)
        self.assertEqual(other.question.falling(True), [(1, "shipped"), (3, "shipped")])
        self.assertFalse(jump.question == other.question)

    def test_a_question_does_not_change_later(self):
        for first in [True, False]:
            for second in [True, False]:
                jump = merge()
                kept = jump.question
                told = (kept.claim, kept.present, kept.coming, kept.falling(True), kept.falling(False))
                jump.reply(first)
                later = jump.question
                jump.reply(second)
                self.assertIsNone(jump.question)
                self.assertEqual((kept.claim, kept.present, kept.coming, kept.falling(True), kept.falling(False)), told)
                self.assertEqual(kept, merge().question)
                self.assertEqual((later.claim, later.falling(True)), ((2, "own"), [(2, "shipped"), (3, "shipped")]))
                self.assertNotEqual(kept, later)

    def test_a_caller_who_changes_a_question_changes_no_merge(self):
        jump = merge()
        jump.question.claim = (3, "own")
        jump.reply(True)
        self.assertEqual(jump.claims, [(0, "own"), (2, "own"), (2, "shipped"), (3, "shipped")])

    def test_equal(self):
        self.assertTrue(merge().question == merge().question)
        self.assertFalse(merge().question != merge().question)
        # Other conflicts of other claims do not matter.
        self.assertTrue(merge().question == merge(rows=("3", "1", "1", "1")).question)

    def test_unequal(self):
        question = merge().question
        for other in [
            merge(rows=("1", "1", "3", "1")).question,
            merge(later="4222", exclusions=("w3x2",)).question,
            merge(exclusions=("y3z2",)).question,
            merge(exclusions=("w3x2", "w3z2")).question,
            merge(rows=("3", "3", "1", "1"), exclusions=("w3z2",)).question,
        ]:
            self.assertFalse(question == other)
            self.assertTrue(question != other)

    def test_unequal_in_the_present_value_only(self):
        told = []
        for value in ["3", "4"]:
            history = History(Release(text("a.w=1")), Release(text("a.w=2")))
            told.append(Merge(history, State(0, [(value, "own", ("1",))]), 1).question)
        self.assertEqual(told[0].falling(True), told[1].falling(True))
        self.assertFalse(told[0] == told[1])

    def test_unequal_in_the_claim_only(self):
        history = History(
            Release(text("a.w=1", "a.x=1", "a.y=1")), Release(text("a.w=2", "a.x=2", "a.y=2")),
            exclusions=[((0, "a.w", "3"), (0, "a.y", "2")), ((0, "a.x", "3"), (0, "a.y", "2"))])
        own, other = ("3", "own", ("1", "2")), ("1", "follows", ())
        one = Merge(history, State(0, [own, other, other]), 1).question
        two = Merge(history, State(0, [other, own, other]), 1).question
        self.assertEqual((one.claim, two.claim), ((0, "own"), (1, "own")))
        self.assertEqual((one.present, one.coming, one.falling(True)), (two.present, two.coming, two.falling(True)))
        self.assertFalse(one == two)

    def test_equals_nothing_else(self):
        question = merge().question
        for other in NO_STRINGS + ODD_STRINGS + [(0, "own"), ((0, "own"), "3", "2"), merge()]:
            self.assertIs(question == other, False)
            self.assertIs(other == question, False)

    def test_two_merges_of_one_state_go_their_own_ways(self):
        history = History(Release(text("a.w=1")), Release(text("a.w=2")))
        state = State(0, [("3", "own", ("1",))])
        one, two = Merge(history, state, 1), Merge(history, state, 1)
        one.reply(True)
        self.assertEqual((two.answers, two.conflicts), ((), [(0, 0)]))
        two.reply(False)
        self.assertEqual(one.result().rows, (("3", "own", ("1", "2")),))
        self.assertEqual(two.result().rows, (("2", "follows", ()),))


if __name__ == "__main__":
    unittest.main()
