"""Jumps: claims, needs, chains, conflicts, answers, results and reports [11, 12, 14, 15, 16, 18]."""

import itertools
import unittest

from settingsmerge.conflicts import is_cover, is_matching
from settingsmerge.errors import BadAnswer, NoChain, NoRelease, Settled, Unanswered
from settingsmerge.history import History, Release
from settingsmerge.merging import Merge
from settingsmerge.states import State, edited
from things import NO_NUMBERS_BELOW_THREE, NO_STRINGS, ODD_STRINGS, text

ALL, NET, LOG, ZERO = ("all", ""), ("section", "net"), ("section", "log"), ("setting", 0)


def row(value, status="follows", *overruled):
    return (value, status, overruled)


def ladder(*exclusions, keys="wxyz", later="2"):
    """Two releases: all settings of a.w, a.x .. are 1, then a later value. Exclusions are strings like w3x2."""
    told = [((0, "a." + e[0], e[1]), (0, "a." + e[2], e[3])) for e in exclusions]
    return History(
        Release(text(*["a.%s=1" % key for key in keys])), Release(text(*["a.%s=%s" % (key, later) for key in keys])),
        exclusions=told)


def owning(history, release=0, rules=(), **values):
    """The state of a release in which the user gave these keys of the section a a value, or None."""
    settings = {key: history.shipped_value(slot, release) for slot, key in enumerate("wxyz"[:history.slots])}
    settings.update(values)
    new = text(*["a.%s=%s" % pair for pair in settings.items() if pair[1] is not None])
    fresh = State.fresh(history, release)
    return edited(history, State(release, fresh.rows, rules=rules), new)


class MergesTest(unittest.TestCase):
    def assert_jump(self, merge, answers=(), rows=None, report=None):
        for answer in answers:
            self.assertIsNone(merge.reply(answer))
        self.assertIsNone(merge.question)
        if rows is not None:
            self.assertEqual(merge.result().rows, tuple(rows))
        if report is not None:
            self.assertEqual(merge.report(), report)


class ClaimsTest(MergesTest):
    # Slot 0 goes from net to log and back with another value each time; slot 1 is only in release 0 and 2.
    HISTORY = History(
        Release(text("net.port=80", "net.host=any")),
        Release(text("log.port=81"), renames=[("net.port", "log.port")]),
        Release(text("net.port=82", "net.host=any"), renames=[("log.port", "net.port")],
                returns=[(0, "net.host", "net.host")]),
    )

    def claims(self, row0, row1, to, rules=(), release=0):
        return Merge(self.HISTORY, State(release, (row0, row1), rules=rules), to).claims

    def test_what_follows_claims_the_shipped_value(self):
        self.assertEqual(self.claims(row("80"), row("any"), 1), [(0, "shipped")])
        self.assertEqual(self.claims(row("80"), row("any"), 2), [(0, "shipped")])
        self.assertEqual(self.claims(row("80"), row("any"), 0), [])
        self.assertEqual(self.claims(row("81"), row(None), 0, release=1), [(0, "shipped"), (1, "shipped")])

    def test_what_is_own_claims_both(self):
        self.assertEqual(self.claims(row("90", "own", "80"), row("any"), 1), [(0, "own"), (0, "shipped")])
        self.assertEqual(self.claims(row(None, "own", "80"), row("any"), 1), [(0, "own"), (0, "shipped")])

    def test_what_was_overruled_is_not_claimed(self):
        self.assertEqual(self.claims(row("90", "own", "80"), row("any"), 0), [(0, "own")])
        self.assertEqual(self.claims(row("90", "own", "80", "81"), row("any"), 1), [(0, "own")])
        self.assertEqual(self.claims(row("80", "held", "81"), row(None), 1, release=1), [])
        self.assertEqual(self.claims(row("80", "held", "81"), row(None), 2, release=1), [(0, "shipped"), (1, "shipped")])

    def test_what_the_new_release_lacks(self):
        self.assertEqual(self.claims(row("80"), row("all", "own", "any"), 1), [(0, "shipped"), (1, "own")])
        # A deleted line is not open in a release without the setting.
        self.assertEqual(self.claims(row("80"), row(None, "own", "any"), 1), [(0, "shipped")])

    def test_what_is_not_open(self):
        self.assertEqual(self.claims(row("81", "own", "80"), row("any"), 1), [])
        self.assertEqual(self.claims(row("82", "held", "81"), row(None), 2, release=1), [(1, "shipped")])

    def test_kept_lines_and_a_setting_that_comes_back(self):
        self.assertEqual(self.claims(row("81"), row("all", "own"), 2, release=1), [(0, "shipped"), (1, "own"), (1, "shipped")])
        self.assertEqual(self.claims(row("81"), row(None, "own"), 2, release=1), [(0, "shipped"), (1, "own"), (1, "shipped")])
        self.assertEqual(self.claims(row("81"), row("any", "own"), 2, release=1), [(0, "shipped")])

    def assert_ruled(self, rules, to, kept, scope=None):
        state = State(0, (row("90", "own", "80"), row("any")), rules=rules)
        merge = Merge(self.HISTORY, state, to)
        sides = ["own", "shipped"] if kept is None else [kept]
        self.assertEqual(merge.claims, [(0, side) for side in sides])
        if kept is None:
            self.assertEqual(merge.conflicts, [(0, 0)])
            return
        new = self.HISTORY.shipped_value(0, to)
        first = row("90", "own", "80", new) if kept == "own" else row(new)
        self.assert_jump(merge, (), (first, row(self.HISTORY.shipped_value(1, to))))
        self.assertEqual(merge.report()[0], (0, ("rule", scope)))
        self.assertEqual(merge.result().rules, tuple(sorted(rules)))

    def test_rules(self):
        for word in ["own", "shipped"]:
            for scope in [ALL, ZERO, LOG]:
                self.assert_ruled([(scope, word)], 1, word, scope)
            for scope in [ALL, ZERO, NET]:
                self.assert_ruled([(scope, word)], 2, word, scope)

    def test_rules_that_do_not_apply(self):
        for word in ["own", "shipped"]:
            # The section counts that the place has in the new release.
            self.assert_ruled([(NET, word)], 1, None)
            self.assert_ruled([(LOG, word)], 2, None)
            self.assert_ruled([(("setting", 1), word), (("section", "port"), word), (("setting", 11), word)], 1, None)

    def test_order_of_rules(self):
        for one, two in [("own", "shipped"), ("shipped", "own")]:
            self.assert_ruled([(ZERO, one), (LOG, two), (ALL, two)], 1, one, ZERO)
            self.assert_ruled([(ZERO, one), (ALL, two)], 1, one, ZERO)
            self.assert_ruled([(LOG, one), (ALL, two)], 1, one, LOG)
            self.assert_ruled([(NET, one), (LOG, two), (ALL, one)], 1, two, LOG)
            self.assert_ruled([(NET, one), (ALL, two)], 1, two, ALL)

    def test_rules_withdraw_nothing_of_a_single_claim(self):
        for word, scope in itertools.product(["own", "shipped"], [ALL, NET, ZERO, ("setting", 1)]):
            rules = [(scope, word)]
            self.assertEqual(self.claims(row("80"), row("any"), 2, rules), [(0, "shipped")])
            self.assertEqual(self.claims(row("90", "own", "82"), row("any"), 2, rules), [(0, "own")])
            self.assertEqual(self.claims(row("80"), row("all", "own"), 1, rules), [(0, "shipped"), (1, "own")])

    def test_no_release(self):
        state = State.fresh(self.HISTORY)
        empty = History(*[Release("")] * 3)
        for thing in NO_NUMBERS_BELOW_THREE:
            for history, known in [(self.HISTORY, state), (empty, State.fresh(empty))]:
                with self.subTest(thing=thing), self.assertRaises(NoRelease) as caught:
                    Merge(history, known, thing)
                self.assertIs(caught.exception.release, thing)

    def test_by_name(self):
        merge = Merge(history=self.HISTORY, state=State(0, (row("90", "own", "80"), row("any"))), to=1)
        self.assertEqual(merge.chain(slot=0, other=0), (0,))
        self.assertEqual(merge.question.falling(stands=True), [(0, "shipped")])
        merge.reply(stands=True)
        self.assertEqual(merge.answers, (True,))

    def test_no_slots(self):
        history = History(Release(""), Release("[a]"))
        merge = Merge(history, State.fresh(history), 1)
        self.assertEqual((merge.claims, merge.conflicts, merge.needs, merge.fewest), ([], [], [], 0))
        self.assertEqual((merge.result(), merge.report()), (State(1, ()), []))


class ChainsTest(MergesTest):
    def test_needs(self):
        history = ladder("w3x2", "x1y2", "z1y2", "w3z9")
        merge = Merge(history, owning(history, w="3"), 1)
        self.assertEqual(merge.needs, [(0, 1), (1, 2), (3, 2)])

    def test_what_is_not_open_neither_needs_nor_is_needed(self):
        history = History(
            Release(text("a.w=1", "a.x=1", "a.y=1")), Release(text("a.w=1", "a.x=1", "a.y=2")),
            exclusions=[((0, "a.x", "3"), (0, "a.y", "2"))])
        self.assertEqual(Merge(history, State.fresh(history), 1).needs, [])
        merge = Merge(history, owning(history, w="2"), 1)
        self.assertEqual(merge.needs, [])
        for pair in [(1, 1), (1, 2), (2, 1), (0, 1)]:
            with self.assertRaises(NoChain):
                merge.chain(*pair)
        self.assertEqual((merge.chain(0, 0), merge.chain(2, 2)), ((0,), (2,)))
        self.assertEqual(Merge(history, owning(history, x="3"), 1).needs, [(1, 2)])

    def test_needs_do_not_end_with_the_answers(self):
        history = ladder("w3x2", "x1y2")
        merge = Merge(history, owning(history, w="3"), 1)
        before = merge.needs
        while merge.question:
            merge.reply(False)
        self.assertEqual(merge.needs, before)
        self.assertEqual(before, [(0, 1), (1, 2)])

    def test_chains(self):
        history = ladder("w3x2", "x1y2", "y1z2")
        merge = Merge(history, owning(history, w="3"), 1)
        for start, end in itertools.product(range(4), repeat=2):
            if start <= end:
                self.assertEqual(merge.chain(start, end), tuple(range(start, end + 1)))
            else:
                self.assert_no_chain(merge, start, end)

    def assert_no_chain(self, merge, slot, other):
        with self.subTest(slot=slot, other=other), self.assertRaises(NoChain) as caught:
            merge.chain(slot, other)
        self.assertIs(caught.exception.slot, slot)
        self.assertIs(caught.exception.other, other)

    def test_chains_go_only_one_way(self):
        history = ladder("w3x2", keys="wx")
        merge = Merge(history, owning(history, w="3"), 1)
        self.assertEqual(merge.chain(0, 1), (0, 1))
        self.assert_no_chain(merge, 1, 0)

    def test_the_shortest_chain(self):
        history = ladder("w3x2", "x1y2", "y1z2", "x1z2")
        self.assertEqual(Merge(history, owning(history, w="3"), 1).chain(0, 3), (0, 1, 3))
        direct = ladder("w3x2", "x1y2", "y1z2", "w3z2")
        self.assertEqual(Merge(direct, owning(direct, w="3"), 1).chain(0, 3), (0, 3))

    def test_the_least_of_the_shortest_chains(self):
        history = ladder("w3y2", "w3x2", "y1z2", "x1z2")
        merge = Merge(history, owning(history, w="3"), 1)
        self.assertEqual(merge.chain(0, 3), (0, 1, 3))
        # From the last slot to the first one, through the lesser of the two between.
        back = ladder("z3y2", "z3x2", "y1w2", "x1w2")
        self.assertEqual(Merge(back, owning(back, z="3"), 1).chain(3, 0), (3, 1, 0))

    def test_each_slot_of_a_chain_needs_the_next_one(self):
        # x is as near to w as y and lesser, but z does not need it, only y does.
        history = ladder("z3y2", "y1w2", "x1w2", "y1x2")
        self.assertEqual(Merge(history, owning(history, z="3"), 1).chain(3, 0), (3, 2, 0))

    def test_chains_in_a_circle(self):
        history = ladder("w3x2", "x1y2", "y1x2")
        merge = Merge(history, owning(history, w="3"), 1)
        self.assertEqual(merge.needs, [(0, 1), (1, 2), (2, 1)])
        self.assertEqual((merge.chain(1, 1), merge.chain(2, 1), merge.chain(0, 2)), ((1,), (2, 1), (0, 1, 2)))

    def test_no_chain_for_any_objects(self):
        history = ladder("w3x2", keys="wxy")
        merge = Merge(history, owning(history, w="3"), 1)
        for thing in NO_NUMBERS_BELOW_THREE:
            self.assert_no_chain(merge, thing, 1)
            self.assert_no_chain(merge, 0, thing)
            self.assert_no_chain(merge, thing, thing)
        self.assertEqual(merge.chain(0, 1), (0, 1))


class ConflictsTest(MergesTest):
    def test_no_conflict(self):
        history = ladder()
        merge = Merge(history, State.fresh(history), 1)
        self.assertEqual((merge.conflicts, merge.question, merge.fewest, merge.answers), ([], None, 0, ()))
        self.assertEqual(merge.paper(), ((), ()))
        self.assert_jump(merge, (), [row("2")] * 4, [(slot, ("free",)) for slot in range(4)])

    def test_a_slot_with_both_claims(self):
        history = ladder()
        merge = Merge(history, owning(history, x="3"), 1)
        self.assertEqual(merge.conflicts, [(1, 1)])
        self.assertEqual(merge.question.claim, (1, "own"))

    def test_through_chains(self):
        history = ladder("w3x2", "x1y2")
        merge = Merge(history, owning(history, w="3"), 1)
        self.assertEqual(merge.claims, [(0, "own"), (0, "shipped"), (1, "shipped"), (2, "shipped"), (3, "shipped")])
        self.assertEqual(merge.conflicts, [(0, 0), (0, 1), (0, 2)])
        self.assertEqual((merge.fewest, merge.question.claim), (1, (0, "own")))
        self.assertEqual(merge.question.falling(True), [(0, "shipped"), (1, "shipped"), (2, "shipped")])
        self.assertEqual(merge.question.falling(False), [(0, "own")])

    def test_stands(self):
        history = ladder("w3x2", "x1y2")
        merge = Merge(history, owning(history, w="3"), 1)
        merge.reply(True)
        self.assertEqual(merge.claims, [(0, "own"), (3, "shipped")])
        self.assertEqual((merge.conflicts, merge.fewest, merge.question, merge.answers), ([], 0, None, (True,)))
        rows = [row("3", "own", "1", "2"), row("1", "held", "2"), row("1", "held", "2"), row("2")]
        report = [(0, ("answers", (0,))), (1, ("held", (0, 1))), (2, ("held", (0, 1, 2))), (3, ("free",))]
        self.assert_jump(merge, (), rows, report)

    def test_falls(self):
        history = ladder("w3x2", "x1y2")
        merge = Merge(history, owning(history, w="3"), 1)
        merge.reply(False)
        self.assertEqual(merge.claims, [(slot, "shipped") for slot in range(4)])
        self.assertEqual((merge.conflicts, merge.fewest, merge.question, merge.answers), ([], 0, None, (False,)))
        report = [(slot, ("answers", (0,))) for slot in range(3)] + [(3, ("free",))]
        self.assert_jump(merge, (), [row("2")] * 4, report)

    def test_a_shipped_claim_is_asked(self):
        # Three changes of the user, whose shipped values were overruled before, against one new value.
        history = ladder("w3z2", "x3z2", "y3z2")
        rows = [row("3", "own", "1", "2")] * 3 + [row("1")]
        merge = Merge(history, State(0, rows), 1)
        self.assertEqual(merge.conflicts, [(0, 3), (1, 3), (2, 3)])
        self.assertEqual((merge.question.claim, merge.question.present, merge.question.coming), ((3, "shipped"), "1", "2"))
        self.assertEqual(merge.question.falling(True), [(0, "own"), (1, "own"), (2, "own")])
        self.assertEqual(merge.question.falling(False), [(3, "shipped")])
        self.assert_jump(merge, [True], [row("2")] * 4, [(slot, ("answers", (0,))) for slot in range(4)])
        merge = Merge(history, State(0, rows), 1)
        report = [(slot, ("answers", (0,))) for slot in range(3)] + [(3, ("held", (0, 3)))]
        self.assert_jump(merge, [False], rows[:3] + [row("1", "held", "2")], report)

    def test_a_shipped_claim_is_asked_beside_other_conflicts(self):
        history = ladder("x3w2", "y3w2")
        rows = [row("1"), row("3", "own", "2"), row("3", "own", "2"), row("3", "own", "1")]
        merge = Merge(history, State(0, rows), 1)
        self.assertEqual(merge.conflicts, [(1, 0), (2, 0), (3, 3)])
        self.assertEqual((merge.fewest, merge.question.claim), (2, (0, "shipped")))
        self.assertEqual(merge.question.falling(True), [(1, "own"), (2, "own")])
        merge.reply(True)
        self.assertEqual(merge.claims, [(0, "shipped"), (3, "own"), (3, "shipped")])
        self.assertEqual((merge.conflicts, merge.question.claim), ([(3, 3)], (3, "own")))

    def test_several_questions(self):
        history = ladder("w3x2", "y3z2")
        state = owning(history, w="3", y="3")
        for answers in itertools.product([True, False], repeat=2):
            merge = Merge(history, state, 1)
            self.assertEqual(merge.conflicts, [(0, 0), (0, 1), (2, 2), (2, 3)])
            self.assertEqual((merge.fewest, merge.question.claim), (2, (0, "own")))
            merge.reply(answers[0])
            self.assertEqual((merge.fewest, merge.question.claim), (1, (2, "own")))
            self.assertEqual((merge.conflicts, merge.answers), ([(2, 2), (2, 3)], answers[:1]))
            merge.reply(answers[1])
            self.assertEqual(merge.answers, answers)
            rows, report = [], []
            for number, stands in enumerate(answers):
                held = ("held", (2 * number, 2 * number + 1)) if stands else ("answers", (number,))
                rows += [row("3", "own", "1", "2"), row("1", "held", "2")] if stands else [row("2"), row("2")]
                report += [(2 * number, ("answers", (number,))), (2 * number + 1, held)]
            self.assert_jump(merge, (), rows, report)

    def test_numbers_of_several_answers(self):
        # Both changes are in conflict with the new value of z; each answer settles one of these conflicts.
        history = ladder("w3z2", "x3z2")
        state = owning(history, w="3", x="3")
        merge = Merge(history, state, 1)
        self.assertEqual(merge.conflicts, [(0, 0), (0, 3), (1, 1), (1, 3)])
        self.assertEqual(merge.paper()[0], ((0, "own"), (1, "own")))
        report = [(0, ("answers", (0,))), (1, ("answers", (1,))), (2, ("free",)), (3, ("answers", (0, 1)))]
        self.assert_jump(merge, [False, False], [row("2")] * 4, report)
        # The first answer settles all conflicts of z, and leaves that of x with itself.
        merge = Merge(history, state, 1)
        merge.reply(True)
        self.assertEqual((merge.conflicts, merge.question.claim), ([(1, 1)], (1, "own")))
        report = [(0, ("answers", (0,))), (1, ("answers", (0, 1))), (2, ("free",)), (3, ("held", (0, 3)))]
        self.assert_jump(merge, [False], [row("3", "own", "1", "2"), row("2"), row("2"), row("1", "held", "2")], report)

    def test_fewest_questions_of_always_falling(self):
        """Whoever always answers that the claim falls is asked just as many as the least cover has."""
        for exclusions in itertools.combinations(["w3x2", "w3y2", "x3y2", "x3z2", "z3w2", "y3w2"], 4):
            history = ladder(*exclusions)
            merge = Merge(history, owning(history, w="3", x="3", y="3", z="3"), 1)
            fewest, asked = merge.fewest, 0
            while merge.question:
                cover, found = merge.paper()
                self.assertTrue(is_cover(merge.conflicts, cover) and is_matching(merge.conflicts, found))
                self.assertEqual((len(cover), len(found), cover[0]), (merge.fewest, merge.fewest, merge.question.claim))
                merge.reply(False)
                asked += 1
            self.assertEqual(asked, fewest)

    def test_all_answers_lead_to_an_end(self):
        history = ladder("w3x2", "x3y2", "y3z2", "z3w2", "w3z2")
        state = owning(history, w="3", x="3", y="3", z="3")
        first = Merge(history, state, 1)
        ends = [()]
        seen = []
        while ends:
            answers = ends.pop()
            merge = Merge(history, state, 1)
            for answer in answers:
                merge.reply(answer)
            self.assertLessEqual(len(answers), first.fewest)
            if merge.question:
                ends += [answers + (True,), answers + (False,)]
                continue
            seen.append(answers)
            values = merge.result().settings()
            for slot, other in itertools.combinations(range(4), 2):
                self.assertFalse(history.excluded(slot, values[slot], other, values[other]))
        self.assertGreater(len(seen), 4)

    def test_returned_lists_are_new(self):
        history = ladder("w3x2")
        merge = Merge(history, owning(history, w="3"), 1)
        for read in [lambda: merge.claims, lambda: merge.conflicts, lambda: merge.needs,
                     lambda: merge.question.falling(True), lambda: merge.question.falling(False)]:
            before = read()
            read().clear()
            read().append(None)
            self.assertEqual(read(), before)
            self.assertNotEqual(before, [])
        merge.reply(True)
        before = merge.report()
        merge.report().clear()
        self.assertEqual(merge.report(), before)


class ErrorsTest(MergesTest):
    def test_unanswered(self):
        history = ladder("w3x2", "y3z2")
        merge = Merge(history, owning(history, w="3", y="3"), 1)
        for claim in [(0, "own"), (2, "own")]:
            for call in [merge.result, merge.report]:
                with self.assertRaises(Unanswered) as caught:
                    call()
                self.assertEqual(caught.exception.claim, claim)
            merge.reply(True)
        self.assertEqual(merge.result().release, 1)

    def test_bad_answers(self):
        history = ladder("w3x2")
        merge = Merge(history, owning(history, w="3"), 1)
        question = merge.question
        for thing in [each for each in NO_STRINGS if each is not True and each is not False] + ODD_STRINGS + ["stands"]:
            with self.subTest(thing=thing), self.assertRaises(BadAnswer) as caught:
                merge.reply(thing)
            self.assertIs(caught.exception.answer, thing)
        self.assertEqual((merge.answers, merge.conflicts, merge.fewest), ((), [(0, 0), (0, 1)], 1))
        self.assertEqual(merge.question, question)

    def test_settled(self):
        history = ladder("w3x2")
        merge = Merge(history, owning(history, w="3"), 1)
        merge.reply(True)
        before = (merge.answers, merge.result(), merge.report())
        for thing in NO_STRINGS + ODD_STRINGS:
            with self.subTest(thing=thing), self.assertRaises(Settled):
                merge.reply(thing)
        self.assertEqual((merge.answers, merge.result(), merge.report()), before)
        with self.assertRaises(Settled):
            Merge(history, State.fresh(history), 1).reply(True)

    def test_arguments_stay_as_they_are(self):
        history = ladder("w3x2")
        state = owning(history, w="3", rules=[(LOG, "own")])
        rows, rules = state.rows, state.rules
        merge = Merge(history, state, 1)
        merge.reply(True)
        merge.result()
        merge.report()
        self.assertEqual((state.release, state.rows, state.rules), (0, rows, rules))

    def test_a_state_that_is_changed_afterwards(self):
        history = ladder("w3x2")
        state = owning(history, w="3")
        merge, other = Merge(history, state, 1), Merge(history, owning(history, w="3"), 1)
        state.release, state.rows, state.rules = 1, (), ((ALL, "own"),)
        merge.reply(True)
        other.reply(True)
        self.assertEqual((merge.result(), merge.report()), (other.result(), other.report()))


class RowsTest(MergesTest):
    def test_not_open(self):
        history = ladder()
        rows = [row("2", "own", "1"), row("2", "own"), row("2", "held", "1", "5"), row("1")]
        merge = Merge(history, State(0, rows), 1)
        self.assertEqual(merge.claims, [(3, "shipped")])
        self.assert_jump(merge, (), [row("2", "own", "1"), row("2", "own"), row("2"), row("2")],
                         [(2, ("free",)), (3, ("free",))])

    def test_own_without_a_conflict(self):
        history = ladder()
        rows = [row("3", "own", "2"), row("3", "own", "1", "2", "5"), row(None, "own", "2"), row("1")]
        merge = Merge(history, State(0, rows), 1)
        self.assert_jump(merge, (), rows[:3] + [row("2")], [(slot, ("overruled",)) for slot in range(3)] + [(3, ("free",))])

    def test_overruled_ascends(self):
        history = ladder(later="5")
        for before, after in [((), ("5",)), (("1",), ("1", "5")), (("9",), ("5", "9")), (("1", "9"), ("1", "5", "9")),
                              (("10", "4"), ("10", "4", "5"))]:
            merge = Merge(history, State(0, [row("3", "own", *before)] + [row("1")] * 3), 1)
            self.assert_jump(merge, [True], [row("3", "own", *after)] + [row("5")] * 3)

    def test_a_setting_that_the_new_release_lacks(self):
        history = History(Release(text("a.w=1", "a.x=1")), Release("[a]"))
        rows = [row("3", "own", "1"), row("1")]
        merge = Merge(history, State(0, rows), 1)
        self.assertEqual((merge.claims, merge.conflicts), ([(0, "own")], []))
        self.assert_jump(merge, (), [row("3", "own", "1"), row(None)], [(0, ("free",)), (1, ("free",))])
        deleted = Merge(history, State(0, [row(None, "own", "1"), row("1")]), 1)
        self.assert_jump(deleted, (), [row(None, "own", "1"), row(None)], [(1, ("free",))])

    def test_a_setting_that_comes_back(self):
        history = History(Release(text("a.w=1")), Release("[a]"), Release(text("a.w=2"), returns=[(0, "a.w", "a.w")]))
        merge = Merge(history, State(1, [row("3", "own", "1")]), 2)
        self.assertEqual((merge.question.present, merge.question.coming), ("3", "2"))
        self.assert_jump(merge, [True], [row("3", "own", "1", "2")], [(0, ("answers", (0,)))])
        empty = Merge(history, State(1, [row(None, "own", "1")]), 2)
        self.assertEqual((empty.question.present, empty.question.coming), (None, "2"))
        self.assert_jump(empty, [False], [row("2")], [(0, ("answers", (0,)))])
        same = Merge(history, State(1, [row("2", "own", "1")]), 2)
        self.assert_jump(same, (), [row("2", "own", "1")], [])

    def test_a_kept_value_needs_a_slot(self):
        # The user keeps a value of a setting that is gone; a new value may not stand beside it.
        history = History(
            Release(text("a.w=1", "a.x=1")), Release(text("a.x=2")), exclusions=[((0, "a.w", "3"), (0, "a.x", "2"))])
        merge = Merge(history, State(0, [row("3", "own", "1"), row("1")]), 1)
        self.assertEqual(merge.conflicts, [(0, 1)])
        self.assert_jump(merge, [True], [row("3", "own", "1"), row("1", "held", "2")],
                         [(0, ("answers", (0,))), (1, ("held", (0, 1)))])
        merge = Merge(history, State(0, [row("3", "own", "1"), row("1")]), 1)
        self.assert_jump(merge, [False], [row(None), row("2")], [(0, ("answers", (0,))), (1, ("answers", (0,)))])

    def test_a_new_setting_is_held_without_a_value(self):
        history = History(
            Release(text("a.w=1")), Release(text("a.w=1", "a.x=2")), exclusions=[((0, "a.w", "3"), (1, "a.x", "2"))])
        merge = Merge(history, State(0, [row("3", "own", "1"), row(None)]), 1)
        self.assert_jump(merge, [True], [row("3", "own", "1"), row(None, "held", "2")],
                         [(0, ("answers", (0,))), (1, ("held", (0, 1)))])

    def test_own_slot_that_is_held_although_its_claim_fell(self):
        history = ladder("w3x2")
        rules = [(("setting", 1), "shipped")]
        merge = Merge(history, owning(history, w="3", x="4", rules=rules), 1)
        self.assertEqual(merge.claims, [(0, "own"), (0, "shipped"), (1, "shipped"), (2, "shipped"), (3, "shipped")])
        self.assert_jump(merge, [True], [row("3", "own", "1", "2"), row("4", "held", "2"), row("2"), row("2")],
                         [(0, ("answers", (0,))), (1, ("held", (0, 1))), (2, ("free",)), (3, ("free",))])

    def test_two_changes_that_need_the_same_slot(self):
        history = ladder("w3z2", "x3z2", "y3x2")
        rows = [row("3", "own", "2"), row("3", "own", "2"), row("3", "own", "2"), row("1")]
        merge = Merge(history, State(0, rows), 1)
        self.assertEqual(merge.conflicts, [(0, 3), (1, 3), (2, 3)])
        self.assertEqual(merge.chain(2, 3), (2, 1, 3))
        self.assert_jump(merge, [False], rows[:3] + [row("1", "held", "2")],
                         [(0, ("answers", (0,))), (1, ("answers", (0,))), (2, ("answers", (0,))), (3, ("held", (0, 3)))])


class HeldTest(MergesTest):
    """Slot 1 is held because of slot 0, in a third release and back."""

    HISTORY = History(
        Release(text("a.w=1", "a.x=1")), Release(text("a.w=1", "a.x=2")), Release(text("a.w=1", "a.x=4")),
        Release(text("a.w=1", "a.x=5")), Release(text("a.w=1", "a.x=1")), Release(text("a.w=1")),
        exclusions=[((0, "a.w", "3"), (0, "a.x", value)) for value in "24"])
    HELD = State(1, [row("3", "own", "1"), row("1", "held", "2")])

    def jump(self, state, to, *answers):
        merge = Merge(self.HISTORY, state, to)
        for answer in answers:
            merge.reply(answer)
        return merge

    def test_it_becomes_held(self):
        merge = self.jump(State(0, [row("3", "own", "1"), row("1")]), 1, True)
        self.assertEqual(merge.result(), self.HELD)

    def test_it_stays_held_at_the_same_release(self):
        merge = self.jump(self.HELD, 1)
        self.assertEqual((merge.claims, merge.conflicts), ([(0, "own")], []))
        self.assert_jump(merge, (), self.HELD.rows, [(0, ("overruled",)), (1, ("held", (0, 1)))])

    def test_it_stays_held_at_another_release(self):
        merge = self.jump(self.HELD, 2)
        self.assertEqual((merge.conflicts, merge.question.claim), ([(0, 1)], (0, "own")))
        self.assert_jump(merge, [True], [row("3", "own", "1"), row("1", "held", "2", "4")],
                         [(0, ("answers", (0,))), (1, ("held", (0, 1)))])

    def test_it_is_let_go_by_an_answer(self):
        merge = self.jump(self.HELD, 2, False)
        self.assert_jump(merge, (), [row("1"), row("4")], [(0, ("answers", (0,))), (1, ("answers", (0,)))])

    def test_it_is_let_go_where_the_new_value_is_not_excluded(self):
        merge = self.jump(self.HELD, 3)
        self.assert_jump(merge, (), [row("3", "own", "1"), row("5")], [(0, ("overruled",)), (1, ("free",))])

    def test_it_is_let_go_where_it_has_the_shipped_value(self):
        merge = self.jump(self.HELD, 4)
        self.assertEqual(merge.claims, [(0, "own")])
        self.assert_jump(merge, (), [row("3", "own", "1"), row("1")], [(0, ("overruled",)), (1, ("free",))])

    def test_it_is_let_go_where_the_release_lacks_it(self):
        merge = self.jump(self.HELD, 5)
        self.assert_jump(merge, (), [row("3", "own", "1"), row(None)], [(0, ("overruled",)), (1, ("free",))])

    def test_it_is_let_go_at_the_same_release_once_nothing_needs_it(self):
        free = edited(self.HISTORY, self.HELD, text("a.w=1", "a.x=1"))
        self.assertEqual(free.rows, (row("1"), row("1", "held", "2")))
        merge = self.jump(free, 1)
        self.assertEqual((merge.claims, merge.conflicts), ([], []))
        self.assert_jump(merge, (), [row("1"), row("2")], [(1, ("free",))])

    def test_what_an_own_slot_overruled_does_not_count_when_it_is_held(self):
        rules = [(("setting", 1), "shipped")]
        state = State(0, [row("3", "own", "1"), row("7", "own", "1", "6")], rules=rules)
        merge = self.jump(state, 1, True)
        self.assert_jump(merge, (), [row("3", "own", "1"), row("7", "held", "2")])


class ReasonsTest(MergesTest):
    """Each reason comes first where several apply."""

    def test_held_before_answers(self):
        history = ladder("w3x2")
        merge = Merge(history, owning(history, w="3"), 1)
        self.assertIn((0, 1), merge.conflicts)
        self.assert_jump(merge, [True])
        self.assertEqual(dict(merge.report())[1], ("held", (0, 1)))

    def test_held_before_rule(self):
        history = ladder("w3x2")
        merge = Merge(history, owning(history, w="3", x="4", rules=[(("setting", 1), "shipped")]), 1)
        self.assert_jump(merge, [True])
        self.assertEqual(dict(merge.report())[1], ("held", (0, 1)))

    def test_answers_before_rule(self):
        history = ladder("w3x2")
        for word in ["own", "shipped"]:
            merge = Merge(history, owning(history, w="3", x="4", rules=[(("setting", 0), "own"), (("setting", 1), word)]), 1)
            if word == "own":
                # The rules leave only own claims of these two slots, so nothing is asked.
                self.assert_jump(merge)
                self.assertEqual(merge.report()[:2], [(0, ("rule", ("setting", 0))), (1, ("rule", ("setting", 1)))])
            else:
                self.assertEqual(merge.conflicts, [(0, 1)])
                self.assert_jump(merge, [False])
                self.assertEqual(merge.report()[:2], [(0, ("answers", (0,))), (1, ("answers", (0,)))])

    def test_answers_before_overruled(self):
        history = ladder("w3x2")
        state = State(0, [row("3", "own", "2"), row("1"), row("1"), row("1")])
        merge = Merge(history, state, 1)
        self.assertEqual(merge.conflicts, [(0, 1)])
        self.assert_jump(merge, [True])
        self.assertEqual(dict(merge.report())[0], ("answers", (0,)))

    def test_rule_names_its_scope(self):
        history = ladder()
        for scope in [("all", ""), ("section", "a"), ("setting", 2)]:
            merge = Merge(history, owning(history, y="3", rules=[(scope, "own")]), 1)
            self.assert_jump(merge)
            self.assertEqual(dict(merge.report())[2], ("rule", scope))

    def test_overruled_is_for_own_slots_only(self):
        history = ladder()
        rows = [row("3", "own", "2"), row("1", "held", "2"), row("1"), row("1")]
        merge = Merge(history, State(0, rows), 1)
        self.assertEqual(merge.report(), [(0, ("overruled",)), (1, ("free",)), (2, ("free",)), (3, ("free",))])

    def test_the_chain_is_the_shortest_of_all_that_stand(self):
        # z is needed by w through x and y, and by y itself: whose own claim falls, whose chain counts no more.
        history = ladder("w3x2", "x1y2", "y3z2", "w3z9")
        state = State(0, [row("3", "own", "2"), row("1"), row("3", "own", "2"), row("1")])
        merge = Merge(history, state, 1)
        self.assertEqual(merge.needs, [(0, 1), (1, 2), (2, 3)])
        self.assertEqual(merge.conflicts, [(0, 1), (0, 3), (2, 3)])
        self.assertEqual(merge.paper()[0], ((0, "own"), (2, "own")))
        self.assert_jump(merge, [True])
        self.assertEqual(merge.report(), [
            (0, ("answers", (0,))), (1, ("held", (0, 1))), (2, ("answers", (0,))), (3, ("held", (2, 3)))])

    def test_of_equal_length_the_least_chain(self):
        history = ladder("x3z2", "w3z2")
        merge = Merge(history, State(0, [row("3", "own", "2"), row("3", "own", "2"), row("1"), row("1")]), 1)
        self.assertEqual(merge.question.claim, (3, "shipped"))
        self.assert_jump(merge, [False])
        self.assertEqual(dict(merge.report())[3], ("held", (0, 3)))

    def test_slots_that_are_neither_open_nor_held_are_left_out(self):
        history = History(Release(text("a.w=1", "a.x=1")), Release(text("a.w=1", "a.x=2")))
        self.assertEqual(Merge(history, State.fresh(history), 1).report(), [(1, ("free",))])
        self.assertEqual(Merge(history, State.fresh(history), 0).report(), [])
        self.assertEqual(Merge(history, State(0, [row("1", "own", "9"), row("1")]), 0).report(), [])


class ExamplesTest(MergesTest):
    """The examples of the interface."""

    def test_a_port(self):
        history = History(Release("[net]\nport = 80\nhost = any"), Release("[net]\nport = 81\nhost = any"))
        state = edited(history, State.fresh(history), "[net]\nport = 90\nhost = any")
        merge = Merge(history, state, 1)
        with self.assertRaises(Unanswered) as caught:
            merge.result()
        self.assertEqual(caught.exception.claim, (0, "own"))
        self.assert_jump(merge, [True], (("90", "own", ("80", "81")), ("any", "follows", ())), [(0, ("answers", (0,)))])

    def test_two_values(self):
        history = History(
            Release("[a]\nx = 1\ny = 1"), Release("[a]\nx = 1\ny = 2"),
            exclusions=[((0, "a.x", "3"), (0, "a.y", "2"))])
        merge = Merge(history, edited(history, State.fresh(history), "[a]\nx = 3\ny = 1"), 1)
        self.assert_jump(merge, [True], None, [(0, ("answers", (0,))), (1, ("held", (0, 1)))])


if __name__ == "__main__":
    unittest.main()
