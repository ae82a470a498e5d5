"""Histories, edits, jumps and texts that a seed decides, against the model [6 to 20]."""

import itertools
import unittest

import model
import worlds
from settingsmerge.conflicts import is_cover, is_matching
from settingsmerge.errors import BadEdit, BadText, Excluded, NoChain
from settingsmerge.files import SettingsFile
from settingsmerge.layout import written
from settingsmerge.merging import Merge
from settingsmerge.states import State, edited
from worlds import plain, state_of, world

WORLDS = 300
DEEDS = 12


class WorldsTest(unittest.TestCase):
    def test_histories(self):
        for seed in range(WORLDS):
            rng, past, history = world(seed)
            with self.subTest(seed):
                self.check_history(past, history)

    def check_history(self, past, history):
        self.assertEqual(len(history), len(past.files))
        self.assertEqual(history.slots, len(past.origins))
        self.assertIs(history.has_exclusions, past.exclusions != [])
        for slot in range(history.slots):
            self.assertEqual(history.kept_place(slot), past.kept(slot))
        for at, (text, renames, returns) in enumerate(past.releases):
            self.assertEqual(history.shipped_text(at), text)
            for slot in range(history.slots):
                self.assertEqual(history.place_of(slot, at), past.place(slot, at))
                self.assertEqual(history.shipped_value(slot, at), past.shipped(slot, at))
            for section, key in itertools.product(worlds.SECTIONS, worlds.KEYS):
                place = section + "." + key
                self.assertEqual(history.slot_at(place, at), past.slot(place, at))
        values = worlds.VALUES + [None]
        for slot, other in itertools.product(range(history.slots), repeat=2):
            for value, other_value in itertools.product(values, repeat=2):
                found = history.excluded(slot, value, other, other_value)
                self.assertIs(found, past.clash(slot, value, other, other_value))

    def test_deeds(self):
        counts = {}
        for seed in range(WORLDS):
            with self.subTest(seed):
                self.check_deeds(seed, counts)
        # The worlds are of use only if everything happens in them.
        for word in ["held", "answers", "rule", "overruled", "free", "many", "BadEdit", "Excluded", "kept"]:
            self.assertGreater(counts.get(word, 0), 10, word)

    def test_single_changes(self):
        """Each value for each slot of one release, then two jumps, as they hold slots back and let them go."""
        counts = {}
        for seed in range(0, 60, 2):
            rng, past, history = world(seed, percent=20)
            fresh = State.fresh(history)
            for place, value in itertools.product(past.files[0]["settings"], worlds.VALUES):
                text = model.written(past, history.shipped_text(0), plain(fresh), self.with_value(past, fresh, place, value))
                state = model.edit(past, plain(fresh), text)
                if state[0] == 0:
                    with self.subTest(seed=seed, place=place, value=value):
                        self.check_two_jumps(rng, past, history, state, text, counts)
        for word in ["held", "answers", "overruled", "free", "far", "held again", "let go"]:
            self.assertGreater(counts.get(word, 0), 10, word)

    def with_value(self, past, state, place, value):
        rows = list(state.rows)
        rows[past.slot(place, state.release)] = (value, "own", ())
        return (state.release, tuple(rows), ())

    def check_two_jumps(self, rng, past, history, state, text, counts):
        first, first_text = self.check_jump(rng, past, history, state, text, counts, chances=0.9)
        second, second_text = self.check_jump(rng, past, history, first, first_text, counts)
        self.check_text(past, history, second, second_text)
        for before, after in zip(first[1], second[1]):
            if before[1] == "held":
                word = "held again" if after[1] == "held" else "let go"
                counts[word] = counts.get(word, 0) + 1

    def check_deeds(self, seed, counts):
        rng, past, history = world(seed)
        release = rng.randrange(len(history))
        state, text = model.fresh(past, release), history.shipped_text(release)
        self.assertEqual(plain(State.fresh(history, release)), state)
        for _ in range(DEEDS):
            deed = rng.choice(["edit", "edit", "jump", "jump", "rule"])
            if deed == "edit":
                state, text = self.check_edit(rng, past, history, state, text, counts)
            elif deed == "jump":
                state, text = self.check_jump(rng, past, history, state, text, counts)
            else:
                state = self.check_rule(rng, past, state)
            self.check_text(past, history, state, text)

    def check_edit(self, rng, past, history, state, text, counts):
        lines = worlds.changed_lines(rng, past, state, text)
        new = "\n".join(lines)
        try:
            SettingsFile(new)
        except BadText as error:
            with self.assertRaises(BadText) as caught:
                edited(history, state_of(state), new)
            self.assertEqual((caught.exception.line, caught.exception.kind), (error.line, error.kind))
            return state, text
        expected = model.edit(past, state, new)
        try:
            found = edited(history, state_of(state), new)
        except BadEdit as error:
            counts["BadEdit"] = counts.get("BadEdit", 0) + 1
            self.assertEqual((error.line, error.kind), expected)
            return state, text
        except Excluded as error:
            counts["Excluded"] = counts.get("Excluded", 0) + 1
            self.assertEqual(("excluded", error.slot, error.other), expected)
            return state, text
        self.assertEqual(plain(found), expected)
        if "#~" in new:
            counts["kept"] = counts.get("kept", 0) + 1
        return expected, new

    def check_rule(self, rng, past, state):
        scopes = [("all", ""), ("section", rng.choice(worlds.SECTIONS)), ("setting", rng.randrange(12))]
        scope, word = rng.choice(scopes), rng.choice(["own", "shipped", None])
        found = state_of(state).ruled(word, scope)
        rules = {**dict(state[2]), scope: word}
        expected = tuple(sorted((scope, word) for scope, word in rules.items() if word))
        self.assertEqual(plain(found), (state[0], state[1], expected))
        return plain(found)

    def check_jump(self, rng, past, history, state, text, counts, chances=None):
        to = rng.randrange(len(history))
        chances = rng.choice([0.0, 0.5, 1.0]) if chances is None else chances
        jump = model.Jump(past, state, to, lambda claim: rng.random() < chances)
        before = state_of(state)
        merge = Merge(history, before, to)
        self.assertEqual(merge.needs, jump.pairs)
        self.check_chains(merge, jump)
        for number, stands in enumerate(jump.answers):
            self.check_question(merge, jump, number, stands)
            merge.reply(stands)
        self.assertIsNone(merge.question)
        self.assertEqual((merge.fewest, merge.conflicts, merge.paper()), (0, [], ((), ())))
        self.assertEqual(merge.claims, jump.standing)
        self.assertEqual(merge.answers, tuple(jump.answers))
        result = merge.result()
        self.assertEqual(plain(result), jump.result())
        self.assertEqual(merge.report(), jump.report())
        self.assertEqual(plain(before), state)
        for slot, reason in merge.report():
            counts[reason[0]] = counts.get(reason[0], 0) + 1
            if reason[0] == "held" and len(reason[1]) > 2:
                counts["far"] = counts.get("far", 0) + 1
        counts["many"] = counts.get("many", 0) + (len(jump.answers) > 1)
        values = result.settings()
        for slot, other in itertools.combinations(range(len(values)), 2):
            self.assertFalse(history.excluded(slot, values[slot], other, values[other]))
        new = written(history, text, before, result)
        self.assertEqual(new, model.written(past, text, state, plain(result)))
        return plain(result), new

    def check_chains(self, merge, jump):
        slots = range(len(jump.state[1]))
        for slot, other in itertools.product(slots, repeat=2):
            expected = jump.chains.get((slot, other))
            if expected:
                self.assertEqual(merge.chain(slot, other), expected)
            else:
                with self.assertRaises(NoChain) as caught:
                    merge.chain(slot, other)
                self.assertEqual((caught.exception.slot, caught.exception.other), (slot, other))

    def check_question(self, merge, jump, number, stands):
        standing, left, cover = jump.steps[number]
        self.assertEqual(merge.claims, standing)
        self.assertEqual(merge.conflicts, left)
        self.assertEqual(merge.fewest, len(cover))
        self.assertEqual(merge.answers, tuple(jump.answers[:number]))
        question = merge.question
        slot = cover[0][0]
        self.assertEqual(question.claim, cover[0])
        self.assertEqual(question.present, jump.state[1][slot][0])
        self.assertEqual(question.coming, jump.past.shipped(slot, jump.to))
        self.assertEqual(question.falling(False), [cover[0]])
        later = jump.steps[number + 1][0] if number + 1 < len(jump.steps) else jump.standing
        self.assertEqual(question.falling(stands), [claim for claim in standing if claim not in later])
        paper = merge.paper()
        self.assertEqual(paper[0], cover)
        self.assertTrue(is_cover(left, paper[0]))
        self.assertTrue(is_matching(left, paper[1]))
        self.assertEqual(len(paper[1]), len(cover))

    def check_text(self, past, history, state, text):
        """The text is a file that shows the state, so that it is no edit; writing it anew twice changes nothing."""
        known = state_of(state)
        self.assertEqual(edited(history, known, text), known)
        once = written(history, text, known, known)
        self.assertEqual(once, model.written(past, text, state, state))
        self.assertEqual(written(history, once, known, known), once)
        self.assertEqual(edited(history, known, once), known)


if __name__ == "__main__":
    unittest.main()
