"""The ends of walks [21]."""

import inspect
import itertools
import unittest

import model
import modelbox
import worlds
from settingsmerge.ends import ends, parting, parting_walk
from settingsmerge.errors import Excluded, NoRelease, TooMany
from settingsmerge.history import History, Release
from settingsmerge.installation import Installation
from settingsmerge.states import State
from things import NO_NUMBERS_BELOW_THREE, text
from worlds import plain, world

T, F = True, False


def row(value, status="follows", *overruled):
    return (value, status, overruled)


def rising(*counts, releases=8):
    """A history of these many keys; the key number k has another value in each of the first counts[k] releases after 0.

    From the state of release 0 in which the user owns all keys, the walk through all of them has as many ends as the
    product of the counts, each one plus one, since each value is asked about as long as no answer was that it falls.
    """
    return History(*[
        Release(text(*["a.%s=%d" % ("abcdefghijkl"[key], min(release, count)) for key, count in enumerate(counts)]))
        for release in range(releases)
    ])


def owned(history, release=0, rules=()):
    """The state in which the user gave each setting of the release another value."""
    rows = []
    for slot in range(history.slots):
        shipped = history.shipped_value(slot, release)
        rows.append(row("mine", "own", shipped) if shipped else row(None))
    return State(release, rows, rules=rules)


HISTORY = History(
    Release(text("a.x=1", "a.y=1")), Release(text("a.x=2", "a.y=1")), Release(text("a.x=3", "a.y=2")))


class EndsTest(unittest.TestCase):
    def test_one_jump(self):
        state = State(0, [row("9", "own", "1"), row("1")])
        self.assertEqual(list(ends(HISTORY, state, (1,))), [
            (((T,),), State(1, [row("9", "own", "1", "2"), row("1")])),
            (((F,),), State(1, [row("2"), row("1")])),
        ])

    def test_a_walk(self):
        state = State(0, [row("9", "own", "1"), row("9", "own", "1")])
        mine, more = row("9", "own", "1", "2", "3"), row("9", "own", "1", "2")
        self.assertEqual(list(ends(HISTORY, state, (1, 2))), [
            (((T,), (T, T)), State(2, [mine, more])),
            (((T,), (T, F)), State(2, [mine, row("2")])),
            (((T,), (F, T)), State(2, [row("3"), more])),
            (((T,), (F, F)), State(2, [row("3"), row("2")])),
            (((F,), (T,)), State(2, [row("3"), more])),
            (((F,), (F,)), State(2, [row("3"), row("2")])),
        ])

    def test_no_questions(self):
        fresh = State.fresh(HISTORY)
        self.assertEqual(list(ends(HISTORY, fresh, (0,))), [(((),), fresh)])
        self.assertEqual(list(ends(HISTORY, fresh, (2, 1, 1, 0))), [(((), (), (), ()), fresh)])
        self.assertEqual(list(ends(HISTORY, fresh, (0, 2) * 4)), [(((),) * 8, State.fresh(HISTORY, 2))])

    def test_kinds(self):
        for answers, state in ends(HISTORY, owned(HISTORY), (1, 2)):
            self.assertIs(type(answers), tuple)
            self.assertIs(type(state), State)
            for each in answers:
                self.assertIs(type(each), tuple)
                self.assertLessEqual({type(stands) for stands in each}, {bool})

    def test_rules_go_along(self):
        state = owned(HISTORY)
        scopes = [("all", ""), ("section", "a"), ("setting", 0)]
        for scope, word in itertools.product(scopes, ["own", "shipped"]):
            ruled = state.ruled(word, scope)
            found = list(ends(HISTORY, ruled, (1, 2)))
            self.assertEqual({end.rules for answers, end in found}, {((scope, word),)})
            self.assertEqual(len(found), 2 if scope[0] == "setting" else 1)
            for answers, end in found:
                self.assertEqual(end.rows[0][1], "own" if word == "own" else "follows")
        # Rules for slots that are not there do not matter.
        ruled = state.ruled("own", ("setting", 11)).ruled("own", ("section", "zzz"))
        self.assertEqual([answers for answers, end in ends(HISTORY, ruled, (1, 2))],
                         [answers for answers, end in ends(HISTORY, state, (1, 2))])

    def test_the_answers_lead_to_the_states(self):
        box = Installation(HISTORY)
        box.put("a.x", "9")
        box.put("a.y", None)
        for walk in [(1,), (2,), (1, 2), (2, 1), (2, 0, 1), (1, 2, 1, 0)]:
            for answers, end in ends(HISTORY, box.state, walk):
                other = Installation.replayed(HISTORY, box.journal())
                for to, each in zip(walk, answers):
                    other.jump(to, answers=each)
                    self.assertEqual(other.journal()[-1], ("jump", to, each))
                self.assertEqual(other.state, end)

    def test_long_walks(self):
        history = rising(7)
        state = owned(history)
        for many in range(1, 8):
            found = list(ends(history, state, tuple(range(1, many + 1))))
            self.assertEqual([answers for answers, end in found], [
                ((T,),) * stands + (((F,),) + ((),) * (many - stands - 1)) * (stands < many)
                for stands in range(many, -1, -1)])

    def test_longer_walks_than_the_limit(self):
        history = rising(7)
        walk = tuple(range(1, 8)) + (0, 1, 2)
        self.assertEqual(len(list(ends(history, owned(history), walk))), 8)
        self.assertEqual(list(ends(history, owned(history), ())), [((), owned(history))])
        self.assertIsNone(parting(history, owned(history), ()))

    def test_the_state_stays_as_it_is(self):
        state = owned(HISTORY)
        before = plain(state)
        list(ends(HISTORY, state, (1, 2)))
        self.assertEqual(plain(state), before)

    def test_states_of_two_ends_share_nothing(self):
        # Both ends of the first jump lead to the same state, since release 2 ships what was overruled or not.
        found = list(ends(HISTORY, owned(HISTORY), (1, 2)))
        for number, (answers, end) in enumerate(found):
            before = [plain(other) for more, other in found]
            end.rows = ()
            after = [plain(other) for more, other in found]
            self.assertEqual([at for at in range(len(found)) if before[at] != after[at]], [number])
        self.assertNotIn((), [end.rows for answers, end in ends(HISTORY, owned(HISTORY), (1, 2))])


class GeneratorTest(unittest.TestCase):
    def test_a_generator(self):
        self.assertTrue(inspect.isgeneratorfunction(ends))
        self.assertTrue(inspect.isgenerator(ends(HISTORY, State.fresh(HISTORY), (1,))))

    def test_asked_for_late(self):
        late = ends(HISTORY, owned(HISTORY), (1, 2))
        other = list(ends(HISTORY, owned(HISTORY), (1, 2)))
        first = next(late)
        list(ends(HISTORY, owned(HISTORY), (2, 1)))
        self.assertEqual([first] + list(late), other)
        self.assertRaises(StopIteration, next, late)

    def test_a_state_that_is_changed_meanwhile(self):
        state = owned(HISTORY)
        expected = list(ends(HISTORY, state, (1, 2)))
        late = ends(HISTORY, state, (1, 2))
        first = next(late)
        state.release, state.rows, state.rules = 2, (), ((("all", ""), "own"),)
        self.assertEqual([first] + list(late), expected)

    def test_not_asked_for(self):
        big = rising(*[1] * 7)
        for walk in [(3,), (0, 9), (1,)]:
            ends(big if walk == (1,) else HISTORY, owned(big if walk == (1,) else HISTORY), walk)

    def test_errors_when_the_first_one_is_asked_for(self):
        big = rising(*[1] * 7)
        late = ends(big, owned(big), (1,))
        with self.assertRaises(TooMany):
            next(late)
        late = ends(HISTORY, owned(HISTORY), (1, 3))
        with self.assertRaises(NoRelease):
            next(late)

    def test_by_turns(self):
        one, two = (ends(HISTORY, owned(HISTORY), (1, 2)) for _ in range(2))
        for first, second in zip(one, two):
            self.assertEqual(first, second)


class NoReleaseTest(unittest.TestCase):
    def test_at_each_position(self):
        fresh = State.fresh(HISTORY)
        for thing in NO_NUMBERS_BELOW_THREE:
            for many in [1, 2, 8]:
                for at in range(many):
                    walk = (1,) * at + (thing,) + (2,) * (many - at - 1)
                    for function in [lambda: next(ends(HISTORY, fresh, walk)), lambda: parting(HISTORY, fresh, walk)]:
                        with self.subTest(walk=walk), self.assertRaises(NoRelease) as caught:
                            function()
                        self.assertIs(caught.exception.release, thing)

    def test_the_first_one_counts(self):
        for walk, at in [((0, -1, 3), 1), ((True, False), 0), ((1, None, "x"), 1), (([], ()), 0), ((0, 1, 2, 3), 3)]:
            with self.assertRaises(NoRelease) as caught:
                next(ends(HISTORY, State.fresh(HISTORY), walk))
            self.assertIs(caught.exception.release, walk[at])

    def test_before_too_many(self):
        history = rising(*[1] * 7, releases=2)
        for function in [lambda walk: next(ends(history, owned(history), walk)),
                         lambda walk: parting(history, owned(history), walk)]:
            with self.assertRaises(NoRelease) as caught:
                function((1, 0, 2))
            self.assertEqual(caught.exception.release, 2)
            with self.assertRaises(TooMany):
                function((1, 0, 1))


class TooManyTest(unittest.TestCase):
    def assert_many(self, history, walk, many, state=None):
        state = owned(history) if state is None else state
        if many <= 64:
            self.assertEqual(len(list(ends(history, state, walk))), many)
            return
        with self.assertRaises(TooMany) as caught:
            next(ends(history, state, walk))
        self.assertEqual(vars(caught.exception), {"limit": 64})
        with self.assertRaises(TooMany) as caught:
            parting(history, state, walk)
        self.assertEqual(caught.exception.limit, 64)

    def test_in_one_jump(self):
        for many in range(13):
            self.assert_many(rising(*[1] * many), (1,), 2 ** many)

    def test_in_walks(self):
        for counts in [(1, 1, 1, 1, 1, 1), (3, 3, 3), (7, 7), (1, 1, 1, 7), (1, 3, 7), (6, 7), (4, 6), (2, 2, 6),
                       (1, 4, 6), (7, 7, 1), (5, 5, 1), (1, 1, 1, 1, 3), (2, 2, 2, 1), (4, 4, 2), (7, 6, 1), (6, 4, 1)]:
            many = 1
            for count in counts:
                many *= count + 1
            self.assert_many(rising(*counts), tuple(range(1, 8)), many)

    def test_exactly_one_too_many(self):
        values = ["000", "241", "024", "033", "314"]
        history = History(
            *[Release(text(*["a.%s=%s" % pair for pair in zip("wxy", each)])) for each in values],
            exclusions=[((0, "a.y", "mine"), (0, "a.w", "3"))])
        self.assertEqual(self.count_by_model(history, (1, 2, 3, 4)), 65)
        self.assert_many(history, (1, 2, 3, 4), 65)
        self.assert_many(history, (1, 2, 3), self.count_by_model(history, (1, 2, 3)))

    def count_by_model(self, history, walk):
        releases = [(history.shipped_text(release), (), ()) for release in range(len(history))]
        past = model.Past(releases, [((0, "a.y", "mine"), (0, "a.w", "3"))])
        return len(list(modelbox.all_ends(past, plain(owned(history)), walk)))

    def test_the_limit_holds_in_the_middle_of_a_walk(self):
        # The last jump has no question more, but there are too many ends before it.
        history = rising(*[1] * 7)
        self.assert_many(history, (1, 2, 3), 128)
        self.assert_many(history, (1, 0), 128)

    def test_a_large_world_is_refused_soon(self):
        history = rising(*[7] * 12)
        self.assert_many(history, tuple(range(1, 8)), 8 ** 12)
        with self.assertRaises(TooMany):
            parting_walk(history, owned(history), 5)


class WorldsTest(unittest.TestCase):
    def test_walks(self):
        """Walks of 1 to 8 releases from states to which deeds led, against the model."""
        counts = {"ends": 0, "many": 0, "long": 0, "rules": 0}
        for seed in range(90):
            rng, past, history = world(seed, percent=10)
            box = Installation(history, rng.randrange(len(history)))
            for _ in range(4):
                here = list(past.files[box.state.release]["settings"])
                values = rng.choice([worlds.VALUES + [None], ["9"]])
                for place in rng.sample(here, min(len(here), rng.choice([3, 6]))):
                    try:
                        box.put(place, rng.choice(values))
                    except Excluded:
                        pass
                if rng.random() < 0.3:
                    box.rule(rng.choice(["own", "shipped"]), section=rng.choice(["net", "log"]))
                walk = tuple(rng.randrange(len(history)) for _ in range(rng.choice([1, 1, 2, 2, 3, 4, 8])))
                with self.subTest(seed=seed, walk=walk):
                    self.check_walk(past, history, box.state, walk, counts)
                box.jump(rng.randrange(len(history)), answers=lambda question: rng.random() < 0.7)
        for word in counts:
            self.assertGreater(counts[word], 5, word)

    def check_walk(self, past, history, state, walk, counts):
        expected = modelbox.ends(past, plain(state), walk)
        if expected is None:
            counts["many"] += 1
            with self.assertRaises(TooMany):
                list(ends(history, state, walk))
            return
        found = list(ends(history, state, walk))
        self.assertEqual([(answers, plain(end)) for answers, end in found], expected)
        counts["ends"] += len(found) > 1
        counts["long"] += len(walk) == 8
        counts["rules"] += state.rules != ()


if __name__ == "__main__":
    unittest.main()
