"""The checks of papers and journals, which may be any objects [13, 21, 22]."""

import itertools
import unittest

import model
import modelbox
import worlds
from settingsmerge.checker import shows_fewest, shows_journal, shows_parting
from settingsmerge.ends import ends, parting
from settingsmerge.errors import BadText, Excluded, NoRelease, TooMany
from settingsmerge.files import SettingsFile, is_name
from settingsmerge.history import History, Release
from settingsmerge.installation import Installation
from settingsmerge.merging import Merge
from settingsmerge.states import State
from things import NO_NUMBERS_BELOW_THREE, NO_STRINGS, ODD_STRINGS, text
from variants import same, variants
from worlds import plain, world

T, F = True, False


def row(value, status="follows", *overruled):
    return (value, status, overruled)


class PartingTest(unittest.TestCase):
    HISTORY = History(Release(text("a.x=1", "a.y=1")), Release(text("a.x=2", "a.y=1")), Release(text("a.x=3", "a.y=2")))
    STATE = State(0, [row("9", "own", "1"), row("9", "own", "1")])

    def papers(self, walk):
        releases = [(self.HISTORY.shipped_text(release), (), ()) for release in range(3)]
        return modelbox.papers(model.Past(releases), plain(self.STATE), walk)

    def test_true_papers(self):
        for walk in [(1, 2), (1, 0), (2, 0, 1), (2, 1, 0)]:
            papers = self.papers(walk)
            self.assertNotEqual(papers, [])
            for paper in papers:
                self.assertIs(shows_parting(self.HISTORY, self.STATE, walk, paper), True)
            self.assertIs(shows_parting(self.HISTORY, self.STATE, walk, parting(self.HISTORY, self.STATE, walk)), True)

    def test_ends_that_are_on_the_other_side_as_well(self):
        walk, wrong = (1, 2), 0
        papers = self.papers(walk)
        for side, way in [("once", walk[-1:]), ("steps", walk)]:
            for answers, end in ends(self.HISTORY, self.STATE, way):
                wrong += (side, answers) not in papers
                self.assertIs(shows_parting(self.HISTORY, self.STATE, walk, (side, answers)), (side, answers) in papers)
        self.assertGreater(wrong, 2)

    def test_walks_that_do_not_part(self):
        for state, walk in [(State.fresh(self.HISTORY), (1, 2)), (self.STATE, (1,)), (self.STATE, (0,)), (self.STATE, (0, 2))]:
            self.assertIsNone(parting(self.HISTORY, state, walk))
            for paper in [None, ("once", ()), ("once", ((),)), ("steps", ((),) * len(walk)), ("once", ((T, T),))]:
                self.assertIs(shows_parting(self.HISTORY, state, walk, paper), False)

    def test_variants(self):
        for walk in [(1, 2), (1, 0)]:
            papers = self.papers(walk)
            for paper in papers:
                for thing in variants(paper):
                    expected = any(same(thing, each) for each in papers)
                    self.assertIs(shows_parting(self.HISTORY, self.STATE, walk, thing), expected, thing)

    def test_one_is_not_true(self):
        self.assertIs(shows_parting(self.HISTORY, self.STATE, (1, 2), ("once", ((T, T),))), True)
        for answers in [((1, T),), ((T, 1),), ((1, 1),), [(T, T)], ([T, T],), ((T, T), ())]:
            self.assertIs(shows_parting(self.HISTORY, self.STATE, (1, 2), ("once", answers)), False)

    def test_any_object(self):
        for thing in NO_STRINGS + ODD_STRINGS + ["once", ("once",), ("once", "steps"), ("steps", ()), self.STATE]:
            self.assertIs(shows_parting(self.HISTORY, self.STATE, (1, 2), thing), False)

    def test_errors_come_first(self):
        big = History(*[Release(text(*["a.%s=%d" % (key, value) for key in "abcdefg"])) for value in [1, 2]])
        state = State(0, [row("9", "own", "1")] * 7)
        for paper in [None, [], ("once", ((T,) * 7,)), ("steps", ())]:
            for walk in [(1,), (1, 0), (0, 1)]:
                with self.assertRaises(TooMany) as caught:
                    shows_parting(big, state, walk, paper)
                self.assertEqual(caught.exception.limit, 64)
            for thing in NO_NUMBERS_BELOW_THREE:
                for walk in [(thing,), (1, thing), (thing, -1)]:
                    with self.assertRaises(NoRelease) as caught:
                        shows_parting(self.HISTORY, self.STATE, walk, paper)
                    self.assertIs(caught.exception.release, thing)


def fewest_by_search(conflicts, thing):
    """Whether an object is a cover and a matching of the same size, found among all of them."""
    asked = sorted({(x, "own") for x, y in conflicts} | {(y, "shipped") for x, y in conflicts})
    for size in range(len(asked) + 1):
        for cover in itertools.combinations(asked, size):
            if all((x, "own") in cover or (y, "shipped") in cover for x, y in conflicts):
                for pairs in itertools.combinations(sorted(conflicts), size):
                    if len({x for x, y in pairs}) == len({y for x, y in pairs}) == size and same(thing, (cover, pairs)):
                        return True
    return False


class FewestTest(unittest.TestCase):
    HISTORY = History(
        Release(text("a.w=1", "a.x=1", "a.y=1")), Release(text("a.w=2", "a.x=2", "a.y=2")),
        exclusions=[((0, "a.w", "3"), (0, "a.x", "2")), ((0, "a.x", "3"), (0, "a.y", "2"))])

    def merge(self, *values):
        rows = [row("3", "own", "1") if value == "3" else row("1") for value in values]
        return Merge(self.HISTORY, State(0, rows), 1)

    def test_true_papers(self):
        for values in itertools.product("13", repeat=3):
            merge = self.merge(*values)
            while True:
                self.assertIs(shows_fewest(merge, merge.paper()), True)
                if merge.question is None:
                    break
                merge.reply(False)
            self.assertIs(shows_fewest(merge, ((), ())), True)

    def test_variants(self):
        right = 0
        for values in [("3", "3", "1"), ("3", "1", "1"), ("1", "1", "1"), ("3", "3", "3")]:
            merge = self.merge(*values)
            for thing in variants(merge.paper(), others=[None, True, 0, 1, "own", (), [], (0, 1), (1, "own"), (0, 0)]):
                expected = fewest_by_search(merge.conflicts, thing)
                right += expected
                self.assertIs(shows_fewest(merge, thing), expected, thing)
        self.assertGreater(right, 0)

    def test_all_covers_and_matchings(self):
        merge = self.merge("3", "3", "1")
        asked = [(0, "own"), (0, "shipped"), (1, "own"), (1, "shipped"), (2, "shipped")]
        self.assertEqual(merge.conflicts, [(0, 0), (0, 1), (0, 2), (1, 1), (1, 2)])
        right = 0
        for size, many in itertools.product(range(4), repeat=2):
            for cover in itertools.combinations(asked, size):
                for pairs in itertools.combinations(merge.conflicts, many):
                    expected = fewest_by_search(merge.conflicts, (cover, pairs))
                    right += expected
                    self.assertIs(shows_fewest(merge, (cover, pairs)), expected)
        self.assertGreater(right, 1)

    def test_a_cover_and_a_matching_of_different_sizes(self):
        merge = self.merge("3", "3", "1")
        cover, pairs = merge.paper()
        self.assertIs(shows_fewest(merge, (cover, pairs[:1])), False)
        larger = tuple(sorted(set(cover) | {(2, "shipped")}))
        self.assertIs(shows_fewest(merge, (larger, pairs)), False)

    def test_only_conflicts_that_are_left(self):
        merge = self.merge("3", "3", "1")
        before = merge.paper()
        merge.reply(True)
        self.assertIs(shows_fewest(merge, before), False)
        self.assertIs(shows_fewest(merge, merge.paper()), True)

    def test_any_object(self):
        for merge in [self.merge("3", "3", "1"), self.merge("1", "1", "1")]:
            for thing in NO_STRINGS + ODD_STRINGS + [merge, ((),), ((), (), ()), [(), ()], ((), []), ([], ()), ("", "")]:
                self.assertIs(shows_fewest(merge, thing), False)

    def test_the_merge_stays_as_it_is(self):
        merge = self.merge("3", "3", "1")
        before = (merge.claims, merge.conflicts, merge.paper(), merge.answers)
        shows_fewest(merge, merge.paper())
        shows_fewest(merge, None)
        self.assertEqual((merge.claims, merge.conflicts, merge.paper(), merge.answers), before)


def is_integer(thing):
    return type(thing) is int


def journal_by_model(past, journal, release):
    """The text to which a journal leads by the model, None if any object is no journal."""
    if type(journal) is not list:
        return None
    box = modelbox.Box(past, release)
    for deed in journal:
        state, shown, report = box.now()
        if type(deed) is not tuple or not deed or not is_deed_by_model(past, state, deed):
            return None
        box.deeds.append(deed)
    return box.now()[1]


def is_deed_by_model(past, state, deed):
    if deed[0] == "edit" and len(deed) == 2:
        return type(deed[1]) is str and is_edit_by_model(past, state, deed[1])
    if deed[0] == "follow" and len(deed) == 2:
        if not is_integer(deed[1]) or not 0 <= deed[1] < len(state[1]) or state[1][deed[1]][1] != "own":
            return False
        return modelbox.clash_in(past, modelbox.followed(past, state, deed[1])[1]) is None
    if deed[0] == "rule" and len(deed) == 3:
        word, scope = deed[1:]
        if not any(same(word, each) for each in ["own", "shipped", None]) or type(scope) is not tuple or len(scope) != 2:
            return False
        kind, named = scope
        return same(scope, ("all", "")) or (kind == "section" and is_name(named)) or (
            kind == "setting" and is_integer(named) and 0 <= named < len(state[1])
            and past.place(named, state[0]) is not None)
    if deed[0] == "jump" and len(deed) == 3:
        if not is_integer(deed[1]) or not 0 <= deed[1] < len(past.files) or type(deed[2]) is not tuple:
            return False
        return any(same(answers, deed[2]) for answers, after in modelbox.jump_ends(past, state, deed[1]))
    return False


def is_edit_by_model(past, state, new):
    try:
        SettingsFile(new)
    except BadText:
        return False
    made = model.edit(past, state, new)
    return isinstance(made[0], int) and len(made) == 3


class JournalTest(unittest.TestCase):
    RELEASES = [
        (text("a.x=1", "a.y=1"), (), ()),
        (text("a.x=2", "b.z=1"), (), ()),
        (text("a.x=2", "a.y=2"), (), [(0, "a.y", "a.y")]),
    ]
    CLASHES = [((0, "a.x", "9"), (0, "a.y", "2"))]
    PAST, HISTORY = model.Past(RELEASES, CLASHES), worlds.history_of(RELEASES, CLASHES)

    def busy_box(self):
        box = Installation(self.HISTORY)
        box.put("a.x", "9")
        box.rule("own", place="a.y")
        box.rule("shipped", section="zzz")
        box.jump(1, answers=[T])
        box.edit("[a]\nx = 9\n[b]\nz = 1\n#~ 2 a.y")
        box.jump(2)
        box.put("a.y", "5")
        box.rule(None)
        box.follow(0)
        box.follow(1)
        return box

    def check(self, journal, shown, release=0):
        expected = journal_by_model(self.PAST, journal, release)
        found = shows_journal(self.HISTORY, journal, shown, release=release)
        self.assertIs(found, expected is not None and same(expected, shown), journal)
        return found

    def test_true_journals(self):
        box = self.busy_box()
        while True:
            self.assertIs(shows_journal(self.HISTORY, box.journal(), box.text), True)
            self.assertTrue(self.check(box.journal(), box.text))
            if len(box) == 0:
                break
            box.undo()

    def test_other_texts(self):
        box = self.busy_box()
        for shown in NO_STRINGS + ODD_STRINGS + [box.text + "\n", self.HISTORY.shipped_text(0), [box.text], (box.text,), box]:
            self.assertIs(shows_journal(self.HISTORY, box.journal(), shown), False)
        self.assertIs(shows_journal(History(Release("")), [], ""), True)
        self.assertIs(shows_journal(History(Release("")), [], None), False)

    def test_variants(self):
        box = self.busy_box()
        counts = {True: 0, False: 0}
        others = [None, True, 0, 1, "own", "x", (), [], (True,), ("all", ""), ("setting", 1), ("section", "a"), ("setting", True),
                  ("follow", 0), ("jump", 0, ()), ("jump", 1, (False,)), ("rule", "own", ("all", "")), ("edit", "")]
        for many in [3, len(box)]:
            journal = box.journal()[:many]
            shown = Installation.replayed(self.HISTORY, journal).text
            for thing in variants(journal, others):
                expected = journal_by_model(self.PAST, thing, 0)
                for each in [shown] if expected is None else [shown, expected]:
                    counts[self.check(thing, each)] += 1
        self.assertGreater(counts[True], 50)
        self.assertGreater(counts[False], 500)

    def test_any_object(self):
        first = self.HISTORY.shipped_text(0)
        for thing in [each for each in NO_STRINGS if each != []] + ODD_STRINGS + [
                self.busy_box(), [()], [[]], [("edit",)], [("undo",)], [("put", "a.x", "9")], [("edit", first, 0)], [["edit", first]],
                [("follow", None)], [("jump", 1)], [("jump", 0, True)], [("jump", 0, None)], [("jump", 0, "")], [("jump", 0, 0)],
                [([], first)], [(("edit",), first)], [(None, None, None)], [("rule", [], ("all", ""))], [("rule", "own", [])],
                [("rule", "own", ("section", []))], [("rule", "own", ([], ""))], [("rule", "own", ("all", None))]]:
            for shown in [first, None, thing]:
                self.assertIs(shows_journal(self.HISTORY, thing, shown), False)

    def test_the_very_answers(self):
        box = Installation(self.HISTORY)
        box.put("a.x", "9")
        edit = box.journal()[0]
        for answers, to in [((), 1), ((T, T), 1), ((T, F), 1), ((1,), 1), ([T], 1), ((T, None), 1), ((0,), 1), ((T,), 0)]:
            self.assertFalse(self.check([edit, ("jump", to, answers)], "[a]\nx = 9\n[b]\nz = 1"))
        self.assertTrue(self.check([edit, ("jump", 1, (T,))], "[a]\nx = 9\n[b]\nz = 1"))

    def test_scopes(self):
        first = self.HISTORY.shipped_text(0)
        for scope, right in [
            (("all", ""), T), (("section", "a"), T), (("section", "zzz"), T), (("setting", 0), T), (("setting", 1), T),
            # Release 0 does not have slot 2, so no rule can be made for it there.
            (("setting", 2), F), (("setting", 3), F), (("setting", -1), F), (("setting", True), F), (("setting", "a.x"), F),
            (("all", "a"), F), (("all",), F), (["all", ""], F), (("section", ""), F), (("section", "A"), F),
            (("section", "a.x"), F), (("section", 0), F), (("section", "abcdefghi"), F), (("place", "a.x"), F), ((), F),
        ]:
            for word in ["own", "shipped", None]:
                self.assertIs(self.check([("rule", word, scope)], first), right)
            self.assertFalse(self.check([("rule", "other", scope)], first))
        self.assertTrue(self.check([("rule", "own", ("setting", 2))], self.HISTORY.shipped_text(1), release=1))
        self.assertFalse(self.check([("rule", "own", ("setting", 1))], self.HISTORY.shipped_text(1), release=1))

    def test_the_release_at_the_beginning(self):
        for release in range(3):
            self.assertTrue(self.check([], self.HISTORY.shipped_text(release), release=release))
            other = self.HISTORY.shipped_text((release + 1) % 3)
            self.assertFalse(self.check([], other, release=release))
        box = Installation(self.HISTORY, 1)
        box.put("a.x", "9")
        self.assertTrue(self.check(box.journal(), box.text, release=1))
        self.assertFalse(self.check(box.journal(), box.text))
        for thing in NO_NUMBERS_BELOW_THREE:
            self.assertIs(shows_journal(self.HISTORY, [], self.HISTORY.shipped_text(1), release=thing), False)
        with self.assertRaises(TypeError):
            shows_journal(self.HISTORY, [], "", 0)

    def test_deeds_that_are_refused(self):
        for journal in [
            [("edit", "[c]")], [("edit", "x = 1")], [("edit", text("a.x=9", "a.y=2"))], [("follow", 0)], [("follow", 7)],
            [("jump", 3, ())], [("jump", -1, ())], [("jump", True, ())], [("edit", None)],
        ]:
            for shown in [self.HISTORY.shipped_text(0), self.HISTORY.shipped_text(1), journal[0][1]]:
                self.assertFalse(self.check(journal, shown))

    def test_the_journal_stays_as_it_is(self):
        box = self.busy_box()
        journal = box.journal()
        shows_journal(self.HISTORY, journal, box.text)
        self.assertEqual(journal, box.journal())

    def test_worlds(self):
        """Journals of many deeds, with a deed taken out, moved or put in twice, against the model."""
        counts = {True: 0, False: 0}
        for seed in range(60):
            rng, past, history = world(seed, percent=12)
            box = Installation(history)
            for _ in range(6):
                here = list(past.files[box.state.release]["settings"])
                for place in here[:2]:
                    try:
                        box.put(place, rng.choice(worlds.VALUES + [None]))
                    except Excluded:
                        pass
                if here and rng.random() < 0.5:
                    box.rule(rng.choice(["own", "shipped", None]), place=rng.choice(here))
                box.jump(rng.randrange(len(history)), answers=lambda question: rng.random() < 0.7)
            journal = box.journal()
            for _ in range(12):
                other = list(journal)
                at = rng.randrange(len(other))
                rng.choice([lambda: other.pop(at), lambda: other.insert(at, rng.choice(journal)),
                            lambda: other.append(other.pop(at)), lambda: other.reverse()])()
                expected = journal_by_model(past, other, 0)
                shown = box.text if expected is None else expected
                found = shows_journal(history, other, shown)
                self.assertIs(found, expected is not None)
                counts[found] += 1
        self.assertGreater(min(counts.values()), 20)


if __name__ == "__main__":
    unittest.main()
