"""What an installation knows of its deeds: undo, journal, len, replayed, trace and attempt."""

import inspect
import unittest

from settingsmerge.errors import Excluded, NoDeed, NoPlace, NoRelease, NoRule, NoSlot, NotOwn, Unanswered
from settingsmerge.history import History, Release
from settingsmerge.installation import Installation
from things import NO_NUMBERS_BELOW_THREE, text

ALL = ("all", "")
# The user's x = 3 excludes the y = 2 of release 1; release 2 lacks z.
HISTORY = History(
    Release(text("a.x=1", "a.y=1", "a.z=1")), Release(text("a.x=1", "a.y=2", "a.z=2")), Release(text("a.x=4", "a.y=2")),
    exclusions=[((0, "a.x", "3"), (0, "a.y", "2"))],
)
FIRST = HISTORY.shipped_text(0)
MOVED = "[a]\nz = 1\ny = 1\nx = 1"


def told(box):
    """All that a caller can see of an installation."""
    return (box.text, box.state.release, box.state.rows, box.state.rules, box.journal(), len(box),
            [box.trace(slot) for slot in range(3)])


def busy_box():
    """An installation that did each kind of deed, one that changes nothing included."""
    box = Installation(HISTORY)
    box.put("a.x", "3")
    box.edit("[a]\nz = 5\ny = 1\nx = 3")
    box.rule("own", section="a")
    box.jump(1, answers=[True])
    box.rule(None, section="a")
    box.put("a.x", "3")
    box.follow(2)
    box.jump(2, answers=[True])
    box.jump(2)
    return box


JOURNAL = [
    ("edit", text("a.x=3", "a.y=1", "a.z=1")),
    ("edit", "[a]\nz = 5\ny = 1\nx = 3"),
    ("rule", "own", ("section", "a")),
    ("jump", 1, (True,)),
    ("rule", None, ("section", "a")),
    ("edit", "[a]\nz = 5\ny = 1\nx = 3"),
    ("follow", 2),
    ("jump", 2, (True,)),
    ("jump", 2, ()),
]


class JournalTest(unittest.TestCase):
    def test_forms(self):
        box = busy_box()
        self.assertEqual(box.journal(), JOURNAL)
        self.assertEqual(len(box), 9)
        self.assertIs(type(box.journal()), list)
        for deed in box.journal():
            self.assertIs(type(deed), tuple)

    def test_empty(self):
        self.assertEqual((Installation(HISTORY, 2).journal(), len(Installation(HISTORY, 2))), ([], 0))

    def test_a_journal_that_is_changed_afterwards(self):
        box = busy_box()
        before = told(box)
        box.journal().clear()
        box.journal().append(("edit", ""))
        box.journal().pop()
        self.assertEqual(told(box), before)

    def test_exactly_the_answers_that_were_used(self):
        box = Installation(HISTORY)
        box.put("a.x", "3")
        box.put("a.z", "9")
        box.jump(1, answers=[False, True, None, "x"])
        self.assertEqual(box.journal()[-1], ("jump", 1, (False, True)))
        box.jump(0, answers=[True])
        self.assertEqual(box.journal()[-1], ("jump", 0, ()))

    def test_refused_deeds_are_no_deeds(self):
        box = busy_box()
        before = told(box)
        for error, deed in [
            (Excluded, lambda: box.put("a.y", "2")), (NoPlace, lambda: box.put("a.z", "1")),
            (NotOwn, lambda: box.follow(1)), (NoSlot, lambda: box.follow(3)), (NoRule, lambda: box.rule("x")),
            (NoRelease, lambda: box.jump(3)), (Excluded, lambda: box.edit(text("a.x=3", "a.y=2"))),
        ]:
            with self.assertRaises(error):
                deed()
            self.assertEqual(told(box), before)


class UndoTest(unittest.TestCase):
    def test_each_kind_of_deed(self):
        for deed in [
            lambda box: box.edit(""), lambda box: box.edit(box.text), lambda box: box.put("a.y", None),
            lambda box: box.put("a.x", "3"), lambda box: box.follow(0), lambda box: box.rule("shipped"),
            lambda box: box.rule("own", place="a.x"), lambda box: box.rule(None), lambda box: box.jump(0),
            lambda box: box.jump(2), lambda box: box.jump(1, answers=[True, False]),
        ]:
            box = busy_box()
            before = told(box)
            deed(box)
            self.assertEqual(len(box), 10)
            self.assertIsNone(box.undo())
            self.assertEqual(told(box), before)

    def test_back_to_the_beginning(self):
        box = busy_box()
        for many in range(8, -1, -1):
            box.undo()
            again = Installation.replayed(HISTORY, JOURNAL[:many])
            self.assertEqual(told(box), told(again))
        self.assertEqual(told(box), told(Installation(HISTORY)))
        with self.assertRaises(NoDeed):
            box.undo()
        self.assertEqual(told(box), told(Installation(HISTORY)))

    def test_no_deed(self):
        box = Installation(HISTORY, 1)
        for _ in range(2):
            with self.assertRaises(NoDeed) as caught:
                box.undo()
            self.assertEqual(vars(caught.exception), {})
        self.assertEqual(told(box), told(Installation(HISTORY, 1)))

    def test_an_undo_is_no_deed(self):
        box = Installation(HISTORY)
        box.put("a.x", "3")
        box.put("a.x", "5")
        box.undo()
        box.undo()
        self.assertEqual(told(box), told(Installation(HISTORY)))

    def test_going_on_after_an_undo(self):
        box = busy_box()
        for _ in range(6):
            box.undo()
        box.put("a.y", "8")
        box.jump(1, answers=[True] * 3)
        other = Installation.replayed(HISTORY, box.journal())
        self.assertEqual(box.journal()[:4], JOURNAL[:3] + [("edit", "[a]\nz = 5\ny = 8\nx = 3")])
        self.assertEqual(told(box), told(other))


class ReplayedTest(unittest.TestCase):
    def test_the_same_installation(self):
        box = busy_box()
        for journal in [box.journal(), tuple(box.journal())]:
            other = Installation.replayed(HISTORY, journal)
            self.assertIs(type(other), Installation)
            self.assertEqual(told(other), told(box))
            self.assertTrue(other == box)

    def test_no_deeds(self):
        for release in range(3):
            self.assertEqual(Installation.replayed(HISTORY, [], release=release), Installation(HISTORY, release))
        self.assertEqual(Installation.replayed(HISTORY, ()), Installation(HISTORY))

    def test_another_release(self):
        box = Installation(HISTORY, 2)
        box.edit("#~ 1 a.z = 7\n[a]")
        box.rule("own", place="a.y")
        box.jump(1, answers=[True, False])
        other = Installation.replayed(HISTORY, box.journal(), release=2)
        self.assertEqual(told(other), told(box))

    def test_a_class_method(self):
        self.assertIsInstance(inspect.getattr_static(Installation, "replayed"), classmethod)
        box = busy_box()
        before = told(box)
        self.assertEqual(told(box.replayed(HISTORY, [])), told(Installation(HISTORY)))
        self.assertEqual(told(box), before)
        with self.assertRaises(TypeError):
            Installation.replayed(HISTORY, [], 1)

    def test_the_journal_stays_as_it_is(self):
        journal = list(JOURNAL)
        other = Installation.replayed(HISTORY, journal)
        self.assertEqual(journal, JOURNAL)
        journal.clear()
        self.assertEqual(other.journal(), JOURNAL)
        other.undo()
        self.assertEqual(other.journal(), JOURNAL[:-1])

    def test_after_undo(self):
        box = busy_box()
        box.undo()
        box.undo()
        self.assertEqual(told(Installation.replayed(HISTORY, box.journal())), told(box))


class TraceTest(unittest.TestCase):
    def test_each_slot(self):
        box = busy_box()
        self.assertEqual(box.trace(0), [(0, ("edit",)), (7, ("answers", (0,)))])
        self.assertEqual(box.trace(1), [(3, ("held", (0, 1)))])
        self.assertEqual(box.trace(2), [(1, ("edit",)), (3, ("rule", ("section", "a"))), (6, ("follow",)), (7, ("free",))])

    def test_only_deeds_that_changed_the_row(self):
        box = Installation(HISTORY)
        box.edit(MOVED)
        box.put("a.x", "1")
        box.rule("own")
        box.jump(0)
        self.assertEqual([box.trace(slot) for slot in range(3)], [[], [], []])
        box.put("a.x", "3")
        # The report tells why the slot stays as it is, but its row does not change.
        self.assertEqual(box.jump(0), [(0, ("overruled",))])
        self.assertEqual(box.trace(0), [(4, ("edit",))])

    def test_a_row_that_changes_in_what_is_overruled_only(self):
        box = Installation(HISTORY)
        box.put("a.z", "9")
        box.jump(1, answers=[True])
        self.assertEqual(box.trace(2), [(0, ("edit",)), (1, ("answers", (0,)))])

    def test_all_reasons_of_reports(self):
        box = Installation(HISTORY)
        box.put("a.x", "3")
        box.jump(1, answers=[True])
        box.put("a.x", "1")
        box.jump(1)
        self.assertEqual(box.trace(1), [(1, ("held", (0, 1))), (3, ("free",))])
        self.assertEqual(box.trace(0), [(0, ("edit",)), (2, ("edit",))])

    def test_undone_deeds_are_not_there(self):
        box = busy_box()
        for many in range(8, -1, -1):
            box.undo()
            for slot in range(3):
                whole = busy_box().trace(slot)
                self.assertEqual(box.trace(slot), [each for each in whole if each[0] < many])

    def test_new_lists(self):
        box = busy_box()
        box.trace(0).clear()
        self.assertEqual(len(box.trace(0)), 2)

    def test_no_slot(self):
        for box in [Installation(HISTORY), busy_box()]:
            for thing in NO_NUMBERS_BELOW_THREE:
                with self.subTest(thing=thing), self.assertRaises(NoSlot) as caught:
                    box.trace(thing)
                self.assertIs(caught.exception.slot, thing)


class AttemptTest(unittest.TestCase):
    def test_a_function_that_returns(self):
        def function(box):
            box.put("a.x", "3")
            box.rule("own")
            return box.jump(1, answers=[True])

        box = Installation(HISTORY)
        self.assertEqual(box.attempt(function), [(0, ("answers", (0,))), (1, ("held", (0, 1))), (2, ("free",))])
        self.assertEqual(box.journal()[1:], [("rule", "own", ALL), ("jump", 1, (True,))])
        other = Installation(HISTORY)
        function(other)
        self.assertEqual(told(box), told(other))

    def test_what_it_returns(self):
        box = Installation(HISTORY)
        for thing in [None, 0, False, True, [], "x", box]:
            self.assertIs(box.attempt(lambda each: thing), thing)
        self.assertIs(box.attempt(lambda each: each), box)
        self.assertEqual(len(box), 0)

    def test_functions_that_raise(self):
        def deeds(box):
            box.put("a.x", "5")
            box.edit("")
            box.rule("shipped")
            box.jump(0)
            box.undo()
            box.jump(1, answers=[False] * 3)

        def undoes(box):
            for _ in range(5):
                box.undo()

        def undoes_all(box):
            while len(box):
                box.undo()
            box.put("a.y", "7")

        for begin in [lambda: Installation(HISTORY), busy_box]:
            for function in [deeds, undoes, undoes_all]:
                for error in [ValueError, KeyError, NoDeed, StopIteration, ZeroDivisionError, KeyboardInterrupt, SystemExit]:
                    box = begin()
                    before = told(box)
                    if function is undoes and not len(box):
                        continue

                    def attempted(each):
                        function(each)
                        raise error("why")

                    with self.assertRaises(error) as caught:
                        box.attempt(attempted)
                    self.assertIs(type(caught.exception), error)
                    self.assertEqual(told(box), before)
                    box.put("a.x", "8")
                    box.undo()
                    self.assertEqual(told(box), before)

    def test_the_very_error_propagates(self):
        error = ValueError("mine")

        def function(box):
            box.edit("")
            raise error

        box = Installation(HISTORY)
        with self.assertRaises(ValueError) as caught:
            box.attempt(function)
        self.assertIs(caught.exception, error)

    def test_errors_of_the_deeds(self):
        def function(box):
            box.put("a.x", "3")
            box.jump(1)

        box = Installation(HISTORY)
        with self.assertRaises(Unanswered) as caught:
            box.attempt(function)
        self.assertEqual(caught.exception.claim, (0, "own"))
        self.assertEqual(told(box), told(Installation(HISTORY)))

    def test_a_function_that_catches_its_error(self):
        def function(box):
            box.put("a.x", "3")
            try:
                box.jump(1)
            except Unanswered:
                return "asked"

        box = Installation(HISTORY)
        self.assertEqual(box.attempt(function), "asked")
        self.assertEqual(len(box), 1)

    def test_a_function_that_undoes_and_returns(self):
        box = busy_box()
        box.attempt(lambda each: each.undo())
        self.assertEqual(box.journal(), JOURNAL[:-1])

    def test_an_attempt_in_an_attempt(self):
        def inner(box):
            box.put("a.z", "6")
            raise KeyError("inner")

        def outer(box):
            box.put("a.x", "3")
            before = told(box)
            with self.assertRaises(KeyError):
                box.attempt(inner)
            self.assertEqual(told(box), before)
            box.put("a.z", "7")

        box = Installation(HISTORY)
        box.attempt(outer)
        self.assertEqual([deed[0] for deed in box.journal()], ["edit", "edit"])
        self.assertEqual(box.text, text("a.x=3", "a.y=1", "a.z=7"))

    def test_an_attempt_is_no_deed(self):
        box = Installation(HISTORY)
        box.attempt(lambda each: None)
        with self.assertRaises(NoDeed):
            box.attempt(lambda each: each.undo())
        self.assertEqual(len(box), 0)

    def test_states_that_the_function_changes(self):
        def now(box):
            box.state.rows = ()
            raise KeyError("why")

        def earlier(box):
            box.undo()
            now(box)

        for function in [now, earlier]:
            box = busy_box()
            before = told(box)
            with self.assertRaises(KeyError):
                box.attempt(function)
            self.assertEqual(told(box), before)
            box.undo()
            self.assertEqual(told(box), told(Installation.replayed(HISTORY, JOURNAL[:-1])))


if __name__ == "__main__":
    unittest.main()
