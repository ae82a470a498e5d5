"""Walks that part from going at once, the papers that show it, and the slots by which they part [21 to 23]."""

import itertools
import unittest

import model
import modelbox
import worlds
from settingsmerge.checker import shows_parting
from settingsmerge.ends import ends, parting, parting_slot, parting_walk
from settingsmerge.errors import Excluded, HasExclusions, NoRelease, TooMany
from settingsmerge.history import History, Release
from settingsmerge.installation import Installation
from settingsmerge.states import State, edited
from things import NO_NUMBERS_BELOW_THREE, text
from worlds import plain, state_of, world

T, F = True, False


def row(value, status="follows", *overruled):
    return (value, status, overruled)


def history_of(*releases, keys="x", exclusions=()):
    """Releases that are strings of one value for each key of the section a."""
    return History(*[
        Release(text(*["a.%s=%s" % pair for pair in zip(keys, values)])) for values in releases
    ], exclusions=exclusions)


def owning(history, *values, release=0):
    """The state in which the user gave these values to the slots, a point standing for the shipped one."""
    rows = []
    for slot, value in enumerate(values):
        shipped = history.shipped_value(slot, release)
        rows.append(row(shipped) if value == "." else row(value, "own", *[shipped] * (shipped is not None)))
    return State(release, rows)


class PartingTest(unittest.TestCase):
    def test_walks_that_do_not_part(self):
        history = history_of("1", "2", "2", "1")
        for state in [State.fresh(history), owning(history, "9"), owning(history, None)]:
            for walk in [(0,), (1,), (3,), (0, 1), (1, 2), (0, 0, 2), (2, 1, 2), (3, 0), (3, 0, 1)]:
                self.assertIsNone(parting(history, state, walk), walk)

    def test_a_walk_of_one_release_does_not_part(self):
        history = history_of("1", "2", "3")
        for to in range(3):
            self.assertIsNone(parting(history, owning(history, "9"), (to,)))

    def test_a_value_on_the_way(self):
        history = history_of("1", "2", "3")
        state = owning(history, "9")
        # At once the user is asked about 3 alone; in steps, what stands has overruled 2 as well.
        self.assertEqual(parting(history, state, (1, 2)), ("once", ((T,),)))
        self.assertIsNone(parting(history, State.fresh(history), (1, 2)))

    def test_going_at_once_asks_nothing(self):
        # Going back to release 0 asks nothing, but on the way the change may fall.
        history = history_of("1", "2")
        self.assertEqual(parting(history, owning(history, "9"), (1, 0)), ("once", ((),)))
        history = history_of("1", "2", "9")
        state = owning(history, "9")
        self.assertEqual([answers for answers, end in ends(history, state, (2,))], [((),)])
        self.assertEqual(parting(history, state, (1, 2)), ("once", ((),)))

    def test_both_sides(self):
        found = {}
        for seed in range(200):
            rng, past, other = world(seed, percent=15)
            for walk in itertools.product(range(len(other)), repeat=2):
                box = Installation(other)
                for place in list(past.files[0]["settings"])[:3]:
                    try:
                        box.put(place, "4")
                    except Excluded:
                        pass
                paper = parting(other, box.state, walk)
                if paper:
                    found.setdefault(paper[0], []).append(paper)
                    self.assertEqual(paper, modelbox.papers(past, plain(box.state), walk)[0])
        self.assertGreater(len(found["once"]), 10)
        self.assertGreater(len(found["steps"]), 10)

    def test_several_answers(self):
        history = history_of("11", "22", "33", keys="xy")
        self.assertEqual(parting(history, owning(history, "9", "9"), (1, 2)), ("once", ((T, T),)))
        history = history_of("11", "22", "31", keys="xy")
        state = owning(history, "9", "9")
        self.assertEqual([answers for answers, end in ends(history, state, (2,))], [((T,),), ((F,),)])
        self.assertEqual(parting(history, state, (1, 2)), ("once", ((T,),)))

    def test_steps_with_fewer_answers_than_at_once(self):
        # On the way both settings are in the section b, where a rule keeps them and overrules the value 2.
        history = History(
            Release(text("a.x=1", "a.y=1")),
            Release(text("b.x=2", "b.y=2"), renames=[("a.x", "b.x"), ("a.y", "b.y")]),
            Release(text("a.x=2", "a.y=1"), renames=[("b.x", "a.x"), ("b.y", "a.y")]))
        state = State(0, [row("9", "own", "1")] * 2, rules=[(("section", "b"), "own")])
        self.assertEqual([answers for answers, end in ends(history, state, (2,))], [((T,),), ((F,),)])
        self.assertEqual([answers for answers, end in ends(history, state, (1, 2))], [((), ())])
        self.assertEqual(parting(history, state, (1, 2)), ("steps", ((), ())))
        for paper in [("steps", ((), ())), ("once", ((T,),)), ("once", ((F,),))]:
            self.assertIs(shows_parting(history, state, (1, 2), paper), True)

    def test_sides(self):
        for releases, clash, values, walk, sides, least in [
            (("23", "32", "33"), ((0, "a.x", "3"), (0, "a.y", "1")), ".1", (1, 2), ["once", "steps"], ("once", ((F,),))),
            (("23", "23", "22"), ((0, "a.y", "2"), (0, "a.x", "4")), "4.", (2, 1), ["steps"], ("steps", ((F,), ()))),
            (("32", "11", "21"), ((0, "a.y", "3"), (0, "a.x", "1")), "23", (2, 1), ["once"], ("once", ((F, T),))),
        ]:
            history = history_of(*releases, keys="xy", exclusions=[clash])
            state = owning(history, *values)
            past = model.Past([(history.shipped_text(release), (), ()) for release in range(3)], [clash])
            papers = modelbox.papers(past, plain(state), walk)
            self.assertEqual(sorted({side for side, answers in papers}), sides)
            self.assertEqual(papers[0], least)
            self.assertEqual(parting(history, state, walk), least)

    def test_least_of_several(self):
        history = history_of("111", "222", "333", keys="xyz")
        state = owning(history, "9", "9", ".")
        past = model.Past([(history.shipped_text(release), (), ()) for release in range(3)])
        papers = modelbox.papers(past, plain(state), (1, 2))
        self.assertGreater(len(papers), 5)
        self.assertEqual(parting(history, state, (1, 2)), papers[0])
        self.assertEqual({side for side, answers in papers}, {"once", "steps"})

    def test_states_with_rules(self):
        history = history_of("1", "2", "3")
        state = owning(history, "9")
        self.assertEqual(parting(history, state.ruled("own", ("all", "")), (1, 2)), ("once", ((),)))
        self.assertIsNone(parting(history, state.ruled("shipped", ("all", "")), (1, 2)))
        self.assertEqual(parting(history, state.ruled("own", ("section", "b")), (1, 2)), ("once", ((T,),)))

    def test_worlds(self):
        counts = {}
        for seed in range(110):
            rng, past, history = world(seed, percent=10)
            box = Installation(history, rng.randrange(len(history)))
            for _ in range(4):
                self.change(rng, past, box)
                walk = tuple(rng.randrange(len(history)) for _ in range(rng.choice([1, 2, 2, 3, 3, 4, 8])))
                with self.subTest(seed=seed, walk=walk):
                    word = self.check_walk(past, history, box.state, walk)
                    counts[word] = counts.get(word, 0) + 1
                box.jump(rng.randrange(len(history)), answers=lambda question: rng.random() < 0.7)
        for word in ["once", "steps", "none", "many"]:
            self.assertGreaterEqual(counts.get(word, 0), 4, word)

    def change(self, rng, past, box):
        here = list(past.files[box.state.release]["settings"])
        values = rng.choice([worlds.VALUES + [None], ["9"]])
        for place in rng.sample(here, min(len(here), rng.choice([2, 3, 6]))):
            try:
                box.put(place, rng.choice(values))
            except Excluded:
                pass
        if rng.random() < 0.2:
            box.rule(rng.choice(["own", "shipped"]), section=rng.choice(["net", "log"]))

    def check_walk(self, past, history, state, walk):
        papers = modelbox.papers(past, plain(state), walk)
        before = plain(state)
        if papers is None:
            for function in [lambda: parting(history, state, walk), lambda: shows_parting(history, state, walk, None)]:
                with self.assertRaises(TooMany) as caught:
                    function()
                self.assertEqual(caught.exception.limit, 64)
            return "many"
        found = parting(history, state, walk)
        self.assertEqual(found, papers[0] if papers else None)
        self.assertEqual(plain(state), before)
        for paper in papers[:4]:
            self.assertIs(shows_parting(history, state, walk, paper), True)
        for side in ["once", "steps"]:
            for answers, end in list(ends(history, state, walk if side == "steps" else walk[-1:]))[:4]:
                self.assertIs(shows_parting(history, state, walk, (side, answers)), (side, answers) in papers)
        return found[0] if found else "none"


class ErrorsTest(unittest.TestCase):
    # Seven slots are asked about in release 1, none of them in release 2, where all are back at the first value.
    BIG = history_of("1" * 7, "2" * 7, "1" * 7, keys="abcdefg")

    def test_too_many_of_the_walk(self):
        state = owning(self.BIG, *"9999999")
        with self.assertRaises(TooMany) as caught:
            parting(self.BIG, state, (1, 2))
        self.assertEqual(caught.exception.limit, 64)

    def test_too_many_of_going_at_once(self):
        # In steps a rule of release 1 leads to one end, since all settings are in its section there.
        releases = [text(*["%s.%s=%d" % (section, key, value) for key in "abcdefg"])
                    for section, value in [("n", 1), ("o", 2), ("n", 3)]]
        names = [[("%s.%s" % (old, key), "%s.%s" % (new, key)) for key in "abcdefg"] for old, new in ["no", "on"]]
        history = History(Release(releases[0]), Release(releases[1], renames=names[0]), Release(releases[2], renames=names[1]))
        state = State(0, [row("9", "own", "1")] * 7, rules=[(("section", "o"), "shipped")])
        self.assertEqual(len(list(ends(history, state, (1, 2)))), 1)
        for function in [
            lambda: parting(history, state, (1, 2)), lambda: shows_parting(history, state, (1, 2), ("once", ((True,),))),
            lambda: parting_walk(history, state, 2),
        ]:
            with self.assertRaises(TooMany) as caught:
                function()
            self.assertEqual(caught.exception.limit, 64)

    def test_no_release_comes_first(self):
        state = owning(self.BIG, *"9999999")
        for walk in [(1, 3), (3, 1), (1, True), (1, 1, 1, None)]:
            with self.assertRaises(NoRelease) as caught:
                parting(self.BIG, state, walk)
            self.assertIs(caught.exception.release, [each for each in walk if each is True or each not in (1, 0)][0])


class PartingWalkTest(unittest.TestCase):
    def test_up_and_down(self):
        history = history_of("1", "1", "2", "1", "3", "1")
        state = owning(history, "9")
        self.assertEqual(parting_walk(history, state, 4), (2, 4))
        self.assertEqual(parting_walk(history, state, 5), (2, 5))
        self.assertEqual(parting_walk(history, state, 3), (2, 3))
        self.assertIsNone(parting_walk(history, state, 2))
        self.assertIsNone(parting_walk(history, state, 1))
        self.assertIsNone(parting_walk(history, state, 0))
        back = owning(history, "9", release=5)
        self.assertEqual(parting_walk(history, back, 0), (2, 0))
        self.assertEqual(parting_walk(history, back, 1), (2, 1))
        self.assertEqual(parting_walk(history, back, 2), (4, 2))
        self.assertEqual(parting_walk(history, back, 3), (4, 3))
        self.assertIsNone(parting_walk(history, back, 4))

    def test_no_walk_parts(self):
        history = history_of("1", "2", "2", "3")
        self.assertIsNone(parting_walk(history, State.fresh(history), 3))
        self.assertIsNone(parting_walk(history, owning(history, "9"), 1))
        # Releases 1 and 2 ship the same value.
        self.assertIsNone(parting_walk(history, owning(history, "9"), 2))
        self.assertEqual(parting_walk(history, owning(history, "9"), 3), (1, 3))

    def test_worlds(self):
        counts = {}
        for seed in range(150):
            rng, past, history = world(seed, percent=15)
            for start, to in itertools.product(range(len(history)), repeat=2):
                if abs(start - to) > 1 and rng.random() < 0.5:
                    box = Installation(history, start)
                    for place in list(past.files[start]["settings"])[:rng.choice([1, 2, 3])]:
                        try:
                            box.put(place, rng.choice(worlds.VALUES + [None]))
                        except Excluded:
                            pass
                    with self.subTest(seed=seed, start=start, to=to):
                        self.check(past, history, box.state, to, counts)
        for word in ["none", "up", "down", "second"]:
            self.assertGreaterEqual(counts.get(word, 0), 5, word)

    def check(self, past, history, state, to, counts):
        expected, walks = None, modelbox.straight_walks(state.release, to)
        for walk in walks:
            if modelbox.papers(past, plain(state), walk):
                expected = walk
                break
        self.assertEqual(parting_walk(history, state, to), expected)
        word = "none" if expected is None else "up" if to > state.release else "down"
        counts[word] = counts.get(word, 0) + 1
        if expected is not None and expected != walks[0]:
            counts["second"] = counts.get("second", 0) + 1

    def test_longer_walks(self):
        """Walks of three releases that part though no shorter ones do."""
        for releases, clash, start, values, walk in [
            (("22", "13", "22", "13"), ((0, "a.x", "2"), (0, "a.y", "3")), 0, "43", (1, 2, 3)),
            (("11", "33", "11", "33"), ((0, "a.x", "1"), (0, "a.y", "2")), 3, "22", (2, 1, 0)),
        ]:
            history = history_of(*releases, keys="xy", exclusions=[clash])
            box = Installation(history, start)
            box.put("a.x", values[0])
            box.put("a.y", values[1])
            to = walk[-1]
            self.assertEqual(parting_walk(history, box.state, to), walk)
            for between in [1, 2]:
                self.assertIsNone(parting(history, box.state, (between, to)))
            self.assertIsNotNone(parting(history, box.state, walk))

    def test_many_releases_between(self):
        history = history_of("1", "1", "1", "1", "1", "2", "1", "1")
        self.assertEqual(parting_walk(history, owning(history, "9"), 7), (5, 7))
        self.assertEqual(parting_walk(history, owning(history, "9", release=7), 0), (5, 0))
        even = history_of(*"11111111")
        self.assertIsNone(parting_walk(even, owning(even, "9"), 7))

    def test_no_release(self):
        history = history_of("1", "2", "3")
        for thing in NO_NUMBERS_BELOW_THREE:
            with self.subTest(thing=thing), self.assertRaises(NoRelease) as caught:
                parting_walk(history, owning(history, "9"), thing)
            self.assertIs(caught.exception.release, thing)

    def test_too_many_of_going_at_once(self):
        history = history_of("1" * 7, "1" * 7, "2" * 7, keys="abcdefg")
        state = owning(history, *"9999999")
        with self.assertRaises(TooMany) as caught:
            parting_walk(history, state, 2)
        self.assertEqual(caught.exception.limit, 64)
        self.assertIsNone(parting_walk(history, state, 1))
        # Going at once is looked at even where there is nothing between.
        with self.assertRaises(TooMany):
            parting_walk(history, State(1, state.rows), 2)

    def test_too_many_of_a_walk_that_is_looked_at(self):
        # Release 1 asks seven questions, release 2 just one.
        history = history_of("1" * 7, "2" * 7, "3" + "1" * 6, "1" * 7, keys="abcdefg")
        state = owning(history, *"9999999")
        for to in [2, 3]:
            with self.assertRaises(TooMany):
                parting_walk(history, state, to)

    def test_walks_behind_the_first_one_that_parts_are_not_looked_at(self):
        # Going by release 1 parts; going by release 2 would have too many ends.
        history = history_of("1" * 7, "3" + "1" * 6, "2" * 7, "1" * 7, keys="abcdefg")
        state = owning(history, *"9999999")
        self.assertEqual(parting_walk(history, state, 3), (1, 3))
        with self.assertRaises(TooMany):
            parting(history, state, (2, 3))


class PartingSlotTest(unittest.TestCase):
    def test_values_on_the_way(self):
        releases = [Release(text(*["a.x=%s" % value] if value else [])) for value in ["1", "2", "3", "1", None]]
        history = History(*releases, Release(text("a.x=2"), returns=[(0, "a.x", "a.x")]))
        for release, walk, expected in [
            (0, (1, 2), 0), (0, (1, 3), 0), (0, (1, 1), None), (0, (1,), None), (0, (3, 2), None), (0, (2, 2), None),
            (0, (0, 1), None), (1, (5, 2), None), (1, (0, 3), None), (1, (0, 4), 0), (4, (1, 4), 0), (0, (4, 1), None),
            (0, (1, 4), 0), (0, (3, 4), None), (4, (1, 2), 0), (4, (0, 3), None), (1, (3, 0, 2), 0), (0, (3, 0, 1, 2, 5), 0),
        ]:
            self.assertEqual(parting_slot(history, release, walk), expected, (release, walk))

    def test_slots_come_back_with_another_number(self):
        history = History(
            Release(text("a.x=1", "a.y=1")), Release(text("a.x=1")),
            Release(text("a.x=1", "a.z=2"), returns=[(0, "a.y", "a.z")]), Release(text("a.x=1", "a.z=3")))
        self.assertEqual(parting_slot(history, 0, (2, 3)), 1)
        self.assertEqual(parting_slot(history, 1, (2, 3)), 1)
        self.assertIsNone(parting_slot(history, 0, (1, 3)))

    def test_the_least_slot(self):
        history = history_of("111", "122", "113", keys="xyz")
        self.assertEqual(parting_slot(history, 0, (1, 2)), 1)
        history = history_of("111", "112", "113", keys="xyz")
        self.assertEqual(parting_slot(history, 0, (1, 2)), 2)

    def test_without_slots(self):
        self.assertIsNone(parting_slot(History(Release(""), Release("")), 0, (1, 0, 1)))

    def test_has_exclusions(self):
        history = history_of("11", "22", keys="xy", exclusions=[((0, "a.x", "9"), (0, "a.y", "2"))])
        for release, walk in [(0, (1, 0)), (2, (0,)), (0, (2,)), (None, (None,)), (True, ("x",))]:
            with self.assertRaises(HasExclusions) as caught:
                parting_slot(history, release, walk)
            self.assertEqual(vars(caught.exception), {})

    def test_no_release(self):
        history = history_of("1", "2", "3")
        for thing in NO_NUMBERS_BELOW_THREE:
            for release, walk in [(thing, (0, 1)), (thing, (99, -1)), (0, (thing,)), (0, (1, thing)), (0, (1, thing, -9)),
                                  (0, (1,) * 7 + (thing,))]:
                with self.subTest(walk=walk), self.assertRaises(NoRelease) as caught:
                    parting_slot(history, release, walk)
                self.assertIs(caught.exception.release, thing)

    def test_against_a_search(self):
        """All states that one change of the user makes, for all walks of up to three releases."""
        counts = {"parts": 0, "none": 0, "lacking": 0}
        for seed in range(1, 120, 2):
            rng, past, history = world(seed)
            releases = past.releases
            history = worlds.history_of(releases)
            past = model.Past(releases)
            for release in range(len(history)):
                states = self.single_changes(past, release)
                for many in [1, 2, 3]:
                    walks = list(itertools.product(range(len(history)), repeat=many))
                    for walk in rng.sample(walks, min(len(walks), 6)):
                        with self.subTest(seed=seed, release=release, walk=walk):
                            self.check(past, history, release, walk, states, counts)
        for word in counts:
            self.assertGreater(counts[word], 10, word)

    def single_changes(self, past, release):
        """A dict from slots to the states in which the user changed this slot alone, the first one by deleting it."""
        found = {}
        fresh = model.fresh(past, release)
        for slot in range(len(past.origins)):
            for value in [None] + worlds.VALUES + ["9"]:
                rows = list(fresh[1])
                shipped = past.shipped(slot, release)
                if value != shipped or shipped is None:
                    rows[slot] = (value, "own", () if shipped is None else (shipped,))
                    found.setdefault(slot, []).append(state_of((release, tuple(rows), ())))
        return found

    def check(self, past, history, release, walk, states, counts):
        found = parting_slot(history, release, walk)
        self.assertEqual(found, modelbox.parting_slot(past, release, walk))
        parted = [slot for slot in states if any(parting(history, state, walk) for state in states[slot])]
        self.assertEqual(found, min(parted, default=None))
        if found is None:
            counts["none"] += 1
            return
        counts["parts"] += 1
        counts["lacking"] += past.place(found, release) is None
        state = states[found][0]
        self.assertIsNone(state.rows[found][0])
        self.assertIsNotNone(parting(history, state, walk))

    def test_the_state_of_the_document(self):
        """The walk parts from the state in which the line is deleted, or a kept line without a value is added."""
        for seed in range(1, 120, 2):
            rng, past, history = world(seed)
            history = worlds.history_of(past.releases)
            for release in range(len(history)):
                walk = tuple(rng.randrange(len(history)) for _ in range(4))
                slot = parting_slot(history, release, walk)
                if slot is not None:
                    box = Installation(history, release)
                    if history.place_of(slot, release) is None:
                        box.edit(box.text + "\n#~ %d %s" % history.kept_place(slot))
                    else:
                        box.put(history.place_of(slot, release), None)
                    self.assertIsNotNone(parting(history, box.state, walk))

    def test_states_of_many_deeds(self):
        """Where there is no parting slot, no state to which deeds lead without rules parts."""
        tried = 0
        for seed in range(1, 160, 2):
            rng, past, history = world(seed)
            past, history = model.Past(past.releases), worlds.history_of(past.releases)
            box = Installation(history, rng.randrange(len(history)))
            for _ in range(8):
                lines = worlds.changed_lines(rng, past, plain(box.state), box.text)
                try:
                    edited(history, box.state, "\n".join(lines))
                except ValueError:
                    continue
                box.edit("\n".join(lines))
                box.jump(rng.randrange(len(history)), answers=lambda question: rng.random() < 0.8)
                for walk in itertools.product(range(len(history)), repeat=2):
                    if parting_slot(history, box.state.release, walk) is None:
                        tried += 1
                        try:
                            self.assertIsNone(parting(history, box.state, walk))
                        except TooMany:
                            pass
        self.assertGreater(tried, 100)


if __name__ == "__main__":
    unittest.main()
