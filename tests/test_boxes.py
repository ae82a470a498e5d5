"""Installations through many deeds that a seed decides, against the model, and the promises over all of them [3]."""

import itertools
import unittest

import model
import modelbox
import worlds
from settingsmerge.checker import shows_fewest, shows_journal
from settingsmerge.errors import BadEdit, BadText, Excluded, NoPlace, NotOwn, Unanswered
from settingsmerge.files import SettingsFile
from settingsmerge.installation import Installation
from settingsmerge.merging import Merge
from settingsmerge.states import edited
from worlds import plain, state_of, world

WORLDS = 160
DEEDS = 14
PLACES = [section + "." + key for section in worlds.SECTIONS for key in worlds.KEYS]


class Pair:
    """An installation and its model, which do the same deeds."""

    def __init__(self, seed):
        self.rng, self.past, self.history = world(seed, percent=12)
        self.release = self.rng.randrange(len(self.history))
        self.box = Installation(self.history, self.release)
        self.model = modelbox.Box(self.past, self.release)

    def snapshot(self):
        return (self.box.text, plain(self.box.state), self.box.journal())


class BoxesTest(unittest.TestCase):
    def setUp(self):
        self.counts = {}

    def count(self, *words):
        for word in words:
            self.counts[word] = self.counts.get(word, 0) + 1

    def assert_happened(self, *words, at_least):
        """The worlds are of use only if everything happens in them."""
        for word in words:
            self.assertGreaterEqual(self.counts.get(word, 0), at_least, word)

    def test_deeds(self):
        for seed in range(WORLDS):
            with self.subTest(seed):
                pair = Pair(seed)
                for _ in range(DEEDS):
                    self.do_any_deed(pair)
                    self.check_all(pair)
                self.check_undo(pair)
        self.assert_happened(
            "edit", "put", "put same", "put none", "put excluded", "no place", "follow", "not own", "follow excluded",
            "rule place", "rule section", "rule all", "no rule place", "jump same", "jump up", "jump down", "unanswered",
            "held", "answers", "rule", "overruled", "free", "kept", "undo", "edit refused", at_least=3)

    def do_any_deed(self, pair):
        name = pair.rng.choice(["edit", "put", "put", "follow", "rule", "jump", "jump", "undo"])
        getattr(self, "do_" + name)(pair)

    def refused(self, pair, error, function, fields):
        before = pair.snapshot()
        with self.assertRaises(error) as caught:
            function()
        self.assertEqual(vars(caught.exception), fields)
        self.assertEqual(pair.snapshot(), before)

    def do_edit(self, pair):
        state, text, report = pair.model.now()
        new = "\n".join(worlds.changed_lines(pair.rng, pair.past, state, text))
        before = pair.snapshot()
        try:
            self.assertIsNone(pair.box.edit(new))
        except (BadText, BadEdit, Excluded):
            self.count("edit refused")
            self.assertEqual(pair.snapshot(), before)
            return
        pair.model.deeds.append(("edit", new))
        self.count("edit")

    def do_put(self, pair):
        state, text, report = pair.model.now()
        place, value = pair.rng.choice(PLACES), pair.rng.choice(worlds.VALUES + [None])
        here = list(pair.past.files[state[0]]["settings"])
        if here and pair.rng.random() < 0.9:
            place = pair.rng.choice(here)
        slot = pair.past.slot(place, state[0])
        if slot is None:
            self.count("no place")
            self.refused(pair, NoPlace, lambda: pair.box.put(place, value), {"place": place})
            return
        same = state[1][slot][0] == value
        new = text if same else modelbox.text_with(pair.past, state, text, slot, value)
        expected = model.edit(pair.past, state, new)
        if expected[0] == "excluded":
            self.count("put excluded")
            fields = {"slot": expected[1], "other": expected[2]}
            self.refused(pair, Excluded, lambda: pair.box.put(place, value), fields)
            return
        self.assertIsNone(pair.box.put(place, value))
        self.assertEqual(pair.box.state.rows[slot][0], value)
        pair.model.deeds.append(("edit", new))
        self.count("put", *["put same"] * same, *["put none"] * (value is None and not same))

    def do_follow(self, pair):
        state, text, report = pair.model.now()
        own = [slot for slot, row in enumerate(state[1]) if row[1] == "own"]
        slots = own if own and pair.rng.random() < 0.8 else range(len(state[1]))
        if not slots:
            return
        slot = pair.rng.choice(list(slots))
        if slot not in own:
            self.count("not own")
            self.refused(pair, NotOwn, lambda: pair.box.follow(slot), {"slot": slot})
            return
        clash = modelbox.clash_in(pair.past, modelbox.followed(pair.past, state, slot)[1])
        if clash:
            self.count("follow excluded")
            fields = {"slot": clash[0], "other": clash[1]}
            self.refused(pair, Excluded, lambda: pair.box.follow(slot), fields)
            return
        self.assertIsNone(pair.box.follow(slot))
        pair.model.deeds.append(("follow", slot))
        self.count("follow")

    def do_rule(self, pair):
        state, text, report = pair.model.now()
        word, kind = pair.rng.choice(["own", "shipped", None]), pair.rng.choice(["place", "section", "all"])
        if kind == "all":
            self.assertIsNone(pair.box.rule(word))
            scope = ("all", "")
        elif kind == "section":
            name = pair.rng.choice(worlds.SECTIONS + ["none"])
            self.assertIsNone(pair.box.rule(word, section=name))
            scope = ("section", name)
        else:
            place = pair.rng.choice(PLACES[:7])
            slot = pair.past.slot(place, state[0])
            if slot is None:
                self.count("no rule place")
                self.refused(pair, NoPlace, lambda: pair.box.rule(word, place=place), {"place": place})
                return
            self.assertIsNone(pair.box.rule(word, place=place, section=pair.rng.choice([None, "net"])))
            scope = ("setting", slot)
        pair.model.deeds.append(("rule", word, scope))
        self.count("rule " + kind)

    def do_jump(self, pair):
        state, text, report = pair.model.now()
        to = pair.rng.randrange(len(pair.history))
        chances = pair.rng.choice([0.0, 0.5, 0.5, 1.0])
        jump = model.Jump(pair.past, state, to, lambda claim: pair.rng.random() < chances)
        answers = list(jump.answers)
        if answers:
            self.count("unanswered")
            few = answers[:pair.rng.randrange(len(answers))]
            claim = jump.steps[len(few)][2][0]
            self.refused(pair, Unanswered, lambda: pair.box.jump(to, answers=few), {"claim": claim})
        merge = Merge(pair.history, pair.box.state, to)
        self.assertEqual(pair.box.jump(to, answers=self.way_to_answer(pair.rng, answers)), jump.report())
        pair.model.deeds.append(("jump", to, tuple(answers)))
        self.check_promises(pair, state, to, jump, merge)
        self.count(*[reason[0] for slot, reason in jump.report()])
        self.count("jump up" if to > state[0] else "jump down" if to < state[0] else "jump same")

    def way_to_answer(self, rng, answers):
        """The answers as a list, a tuple, or a function, or with objects behind them that are not looked at."""
        if rng.random() < 0.3:
            left = list(answers)
            return lambda question: left.pop(0)
        surplus = rng.choice([[], [True, False], [None, "stands", 1]])
        return rng.choice([list, tuple])(answers + surplus)

    def do_undo(self, pair):
        if len(pair.box):
            self.assertIsNone(pair.box.undo())
            pair.model.deeds.pop()
            self.count("undo")

    def check_promises(self, pair, before, to, jump, merge):
        """What [3] says of a jump."""
        after = plain(pair.box.state)
        settled = {slot for conflict in jump.first for slot in conflict}
        for slot, (old, new) in enumerate(zip(before[1], after[1])):
            if old[1] == "own" and new[:2] != (old[0], "own"):
                self.assertTrue(slot in settled or slot in jump.withdrawn)
            coming = pair.past.shipped(slot, to)
            if coming is not None and new[0] != coming:
                self.assertIn(new[1], ["own", "held"])
                self.assertIn(coming, new[2])
        self.assertLessEqual(len(jump.answers), merge.fewest)
        self.assertTrue(shows_fewest(merge, merge.paper()))
        while merge.question:
            merge.reply(False)
        self.assertEqual(len(merge.answers), len(jump.steps[0][2]) if jump.steps else 0)
        if to == before[0]:
            self.assertEqual(jump.answers, [])
            again = Merge(pair.history, pair.box.state, to)
            self.assertEqual(again.result(), pair.box.state)

    def check_all(self, pair):
        box, (state, text, report) = pair.box, pair.model.now()
        self.assertEqual(plain(box.state), state)
        self.assertEqual(box.text, text)
        self.assertEqual(box.journal(), pair.model.deeds)
        self.assertEqual(len(box), len(pair.model.deeds))
        for slot in range(pair.history.slots):
            self.assertEqual(box.trace(slot), pair.model.trace(slot))
        self.check_text(pair, state, text)
        again = Installation.replayed(pair.history, box.journal(), release=pair.release)
        self.assertEqual((again.text, again.state, again.journal()), (box.text, box.state, box.journal()))
        self.assertTrue(again == box)
        self.assertIs(shows_journal(pair.history, box.journal(), box.text, release=pair.release), True)

    def check_text(self, pair, state, text):
        """The text is a file that shows the state [9], and no two of its values exclude each other."""
        file = SettingsFile(text)
        shown = {pair.past.slot(place, state[0]): value for place, value in file.pairs()}
        expected = {slot: row[0] for slot, row in enumerate(state[1])
                    if pair.past.place(slot, state[0]) and row[0] is not None}
        self.assertEqual(shown, expected)
        kept = [pair.past.kept(slot) + (row[0],) for slot, row in enumerate(state[1])
                if not pair.past.place(slot, state[0]) and row[1] == "own"]
        self.assertEqual(sorted(file.kept(), key=repr), sorted(kept, key=repr))
        self.count(*["kept"] * len(kept))
        self.assertEqual(edited(pair.history, state_of(state), text), state_of(state))
        self.assertIsNone(modelbox.clash_in(pair.past, state[1]))
        for slot, (value, status, overruled) in enumerate(state[1]):
            shipped = pair.past.shipped(slot, state[0])
            self.assertEqual(list(overruled), sorted(set(overruled)))
            if status == "follows":
                self.assertEqual((value, overruled), (shipped, ()))
            if status == "held":
                self.assertIn(shipped, overruled)
                self.assertNotEqual(value, shipped)

    def check_undo(self, pair):
        """All deeds are taken back, one by one."""
        told = pair.model.told()
        while len(pair.box):
            pair.box.undo()
            told.pop()
            self.assertEqual((plain(pair.box.state), pair.box.text), told[-1][:2])
            self.assertEqual(pair.box.journal(), pair.model.deeds[:len(told) - 1])
        self.assertEqual(len(told), 1)
        self.assertEqual(pair.box, Installation(pair.history, pair.release))

    def test_puts_of_each_value(self):
        """Each value at each place of each release, in fresh installations and behind one change and a jump."""
        for seed in range(0, 40):
            rng, past, history = world(seed, percent=15)
            for release in range(len(history)):
                with self.subTest(seed=seed, release=release):
                    self.put_each_value(past, history, Installation(history, release))
                    box = Installation(history, release)
                    for place in list(past.files[release]["settings"])[:1]:
                        try:
                            box.put(place, rng.choice(worlds.VALUES + [None]))
                        except Excluded:
                            pass
                    box.jump(rng.randrange(len(history)), answers=lambda question: rng.random() < 0.7)
                    self.put_each_value(past, history, box)
        self.assert_happened("follows", "own", "excluded", "stays", at_least=40)

    def put_each_value(self, past, history, box):
        before, text = plain(box.state), box.text
        for place, value in itertools.product(past.files[before[0]]["settings"], worlds.VALUES + [None]):
            slot = past.slot(place, before[0])
            rows = list(before[1])
            rows[slot] = (value, None, None)
            if modelbox.clash_in(past, rows):
                with self.assertRaises(Excluded) as caught:
                    box.put(place, value)
                self.assertEqual((caught.exception.slot, caught.exception.other), modelbox.clash_in(past, rows))
                self.assertEqual((plain(box.state), box.text), (before, text))
                self.count("excluded")
                continue
            box.put(place, value)
            if before[1][slot][0] == value:
                self.assertEqual((plain(box.state), box.text), (before, text))
                self.count("stays")
            else:
                row = box.state.rows[slot]
                status = "follows" if value == past.shipped(slot, before[0]) else "own"
                self.assertEqual(row[:2], (value, status))
                self.assertEqual(box.state.rows[:slot] + box.state.rows[slot + 1:], before[1][:slot] + before[1][slot + 1:])
                self.count(status)
            self.assertEqual(box.journal()[-1], ("edit", box.text))
            box.undo()
            self.assertEqual((plain(box.state), box.text), (before, text))

    def test_two_installations_by_turns(self):
        """Two installations of one history and one of another history of the same releases do the same deeds."""
        for seed in range(40):
            pair = Pair(seed)
            other = worlds.world(seed, percent=12)[2]
            self.assertIsNot(other, pair.history)
            boxes = [Installation(pair.history, pair.release), Installation(other, pair.release)]
            stranger = Installation(pair.history)
            for _ in range(DEEDS):
                for name in ["edit", "put", "follow", "rule", "jump"]:
                    before = len(pair.box)
                    getattr(self, "do_" + name)(pair)
                    reports = [self.repeat(box, deed) for deed in pair.box.journal()[before:] for box in boxes]
                    for box in boxes:
                        self.assertEqual((box.text, box.state, box.journal()), (pair.box.text, pair.box.state, pair.box.journal()))
                        self.assertTrue(box == pair.box)
                    self.assertEqual(reports[:1], reports[1:])
            self.assertEqual(stranger, Installation(other))
            self.assertEqual((stranger.journal(), len(stranger)), ([], 0))

    def repeat(self, box, deed):
        if deed[0] == "edit":
            return box.edit(deed[1])
        if deed[0] == "follow":
            return box.follow(deed[1])
        if deed[0] == "jump":
            return box.jump(deed[1], answers=deed[2])
        kind, named = deed[2]
        if kind == "setting":
            return box.rule(deed[1], place=box.history.place_of(named, box.state.release))
        return box.rule(deed[1], section=named) if kind == "section" else box.rule(deed[1])


if __name__ == "__main__":
    unittest.main()
