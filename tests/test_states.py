"""States and their rules [8, 18]."""

import inspect
import itertools
import unittest

from settingsmerge.errors import NoRelease, NoRule
from settingsmerge.history import History, Release
from settingsmerge.states import State
from things import NO_NUMBERS_BELOW_THREE, NO_STRINGS, ODD_STRINGS, text

HISTORY = History(
    Release(text("net.port=80", "net.host=any")),
    Release(text("net.port=81", "log.level=1")),
    Release(text("net.host=all", "log.level=1"), returns=[(0, "net.host", "net.host")]),
)
ROWS = (("90", "own", ("80", "81")), (None, "own", ()), ("1", "held", ("2",)), ("2", "follows", ()), (None, "held", ("x",)))
ALL, NET, LOG, ZERO, ONE = ("all", ""), ("section", "net"), ("section", "log"), ("setting", 0), ("setting", 11)


class StatesTest(unittest.TestCase):
    def test_attributes(self):
        for rows in [ROWS, list(ROWS)]:
            state = State(2, rows, rules=[(ALL, "own")])
            self.assertEqual((state.release, state.rows, state.rules), (2, ROWS, ((ALL, "own"),)))
            self.assertIs(type(state.rows), tuple)
            self.assertIs(type(state.rules), tuple)
        self.assertEqual(State(0, ()).rows, ())
        self.assertEqual(State(0, []).rules, ())

    def test_by_name(self):
        state = State(release=1, rows=ROWS, rules=((NET, "own"),))
        self.assertEqual((state.release, state.rows, state.rules), (1, ROWS, ((NET, "own"),)))
        self.assertEqual(State.fresh(history=HISTORY, release=1), State.fresh(HISTORY, 1))
        self.assertEqual(state.ruled(word=None, scope=NET), State(1, ROWS))
        with self.assertRaises(TypeError):
            State(1, ROWS, ((NET, "own"),))

    def test_settings(self):
        state = State(0, ROWS)
        self.assertEqual(state.settings(), ["90", None, "1", "2", None])
        state.settings().append("x")
        self.assertEqual(state.settings(), ["90", None, "1", "2", None])

    def test_lists_that_are_changed_afterwards(self):
        rows, rules = list(ROWS), [(NET, "own"), (ALL, "own")]
        state = State(0, rows, rules=rules)
        self.assertEqual(rules, [(NET, "own"), (ALL, "own")])
        rows.clear()
        rules.clear()
        self.assertEqual(state.rows, ROWS)
        self.assertEqual(state.rules, ((ALL, "own"), (NET, "own")))

    def test_equal(self):
        state = State(1, ROWS, rules=[(ALL, "own"), (NET, "shipped")])
        self.assertTrue(state == State(1, list(ROWS), rules=((NET, "shipped"), (ALL, "own"))))
        self.assertFalse(state != State(1, list(ROWS), rules=((NET, "shipped"), (ALL, "own"))))
        self.assertTrue(state == state)
        for other in [
            State(0, ROWS, rules=state.rules), State(1, ROWS[:-1], rules=state.rules), State(1, ROWS),
            State(1, ROWS[::-1], rules=state.rules), State(1, ROWS, rules=[(ALL, "own"), (NET, "own")]),
            State(1, (("90", "own", ("80",)),) + ROWS[1:], rules=state.rules),
            State(1, (("90", "held", ("80", "81")),) + ROWS[1:], rules=state.rules),
        ]:
            self.assertFalse(state == other)
            self.assertTrue(state != other)

    def test_equals_nothing_else(self):
        state = State(1, ROWS)
        for other in NO_STRINGS + ODD_STRINGS + [ROWS, (1, ROWS, ()), repr(state), HISTORY]:
            self.assertIs(state == other, False)
            self.assertIs(other == state, False)

    def test_repr(self):
        self.assertEqual(repr(State(2, ROWS)), "State(2, 2 own, 2 held)")
        self.assertEqual(repr(State(0, ())), "State(0, 0 own, 0 held)")
        self.assertEqual(repr(State(7, ROWS[:1] * 12, rules=[(ALL, "own")])), "State(7, 12 own, 0 held)")
        # A value may read like a status.
        self.assertEqual(repr(State(1, (("own", "follows", ("held",)), ("held", "held", ())))), "State(1, 0 own, 1 held)")

    def test_fresh(self):
        expected = [
            (("80", "follows", ()), ("any", "follows", ()), (None, "follows", ())),
            (("81", "follows", ()), (None, "follows", ()), ("1", "follows", ())),
            ((None, "follows", ()), ("all", "follows", ()), ("1", "follows", ())),
        ]
        for release, rows in enumerate(expected):
            state = State.fresh(HISTORY, release)
            self.assertEqual((state.release, state.rows, state.rules), (release, rows, ()))
        self.assertEqual(State.fresh(HISTORY), State.fresh(HISTORY, 0))
        self.assertEqual(State.fresh(History(Release(""))), State(0, ()))

    def test_fresh_is_a_static_method(self):
        self.assertIsInstance(inspect.getattr_static(State, "fresh"), staticmethod)
        self.assertEqual(State(0, ()).fresh(HISTORY, 1), State.fresh(HISTORY, 1))

    def test_fresh_of_no_release(self):
        for history in [HISTORY, History(*[Release("")] * 3)]:
            for thing in NO_NUMBERS_BELOW_THREE:
                with self.subTest(thing=thing), self.assertRaises(NoRelease) as caught:
                    State.fresh(history, thing)
                self.assertIs(caught.exception.release, thing)


class RulesTest(unittest.TestCase):
    def test_rules_in_any_order(self):
        rules = [(ALL, "shipped"), (LOG, "own"), (NET, "shipped"), (ZERO, "own"), (ONE, "shipped")]
        for order in itertools.permutations(rules):
            self.assertEqual(State(0, (), rules=order).rules, tuple(rules))
            state = State(0, ROWS)
            for scope, word in order:
                state = state.ruled(word, scope)
            self.assertEqual((state.rules, state.rows, state.release), (tuple(rules), ROWS, 0))

    def test_slots_are_ordered_as_numbers(self):
        rules = [(("setting", slot), "own") for slot in range(12)]
        self.assertEqual(State(0, (), rules=rules[::-1]).rules, tuple(rules))

    def test_a_new_rule_replaces_the_old_one(self):
        state = State(0, ROWS, rules=[(ALL, "own"), (NET, "own"), (ZERO, "own")])
        for scope in [ALL, NET, ZERO]:
            changed = state.ruled("shipped", scope)
            expected = tuple((each, "shipped" if each == scope else "own") for each in [ALL, NET, ZERO])
            self.assertEqual(changed.rules, expected)
            self.assertEqual(changed.ruled("own", scope), state)
            self.assertEqual(state.ruled("own", scope), state)

    def test_none_removes_a_rule(self):
        state = State(0, ROWS, rules=[(ALL, "own"), (NET, "own"), (ZERO, "own")])
        for scope in [ALL, NET, ZERO]:
            expected = tuple((each, "own") for each in [ALL, NET, ZERO] if each != scope)
            self.assertEqual(state.ruled(None, scope).rules, expected)
        for scope in [LOG, ONE, ("section", "nett"), ("setting", 1)]:
            self.assertEqual(state.ruled(None, scope), state)
        self.assertEqual(State(0, ROWS).ruled(None, ALL), State(0, ROWS))

    def test_the_state_stays_as_it_is(self):
        state = State(3, ROWS, rules=[(NET, "own")])
        state.ruled("own", ALL)
        state.ruled("shipped", NET)
        state.ruled(None, NET)
        self.assertEqual((state.release, state.rows, state.rules), (3, ROWS, ((NET, "own"),)))

    def test_no_rule(self):
        state = State(0, ROWS, rules=[(NET, "own")])
        for word in [thing for thing in NO_STRINGS if thing is not None] + ODD_STRINGS + [
                "Own", "own ", "owned", "held", "follows", "all", ["own"], ("own",), "shipped\n"]:
            for scope in [ALL, NET]:
                with self.subTest(word=word), self.assertRaises(NoRule) as caught:
                    state.ruled(word, scope)
                self.assertIs(caught.exception.word, word)
        self.assertEqual(state.rules, ((NET, "own"),))


if __name__ == "__main__":
    unittest.main()
