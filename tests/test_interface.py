"""The names, arguments and kinds of values of the interface, of all modules."""

import importlib
import inspect
import unittest

from settingsmerge import checker, conflicts, console, ends, errors, files, history, installation, layout, merging, states
from things import text

# For each function the names of its parameters: those behind the bare star only by name, those with a sign = may be
# left out.
FUNCTIONS = {
    "files": {"is_name": "thing", "is_place": "thing", "is_value": "thing"},
    "conflicts": {
        "least_cover": "conflicts", "matching": "conflicts", "is_cover": "conflicts thing", "is_matching": "conflicts thing"},
    "states": {"edited": "history state text"},
    "layout": {"written": "history text before after"},
    "ends": {
        "ends": "history state walk", "parting": "history state walk", "parting_walk": "history state to",
        "parting_slot": "history release walk"},
    "checker": {
        "shows_parting": "history state walk paper", "shows_fewest": "merge paper",
        "shows_journal": "history journal text * release="},
}
CLASSES = {
    "files": {"SettingsFile": {
        "__init__": "text", "sections": "", "places": "", "value": "place", "kept": "", "block": "thing", "tail": "",
        "pairs": "", "lines": None}},
    "history": {
        "Release": {"__init__": "text * renames= returns="},
        "History": {
            "__init__": "*releases exclusions=", "place_of": "slot release", "shipped_value": "slot release",
            "slot_at": "place release", "shipped_text": "release", "kept_place": "slot",
            "excluded": "slot value other other_value", "slots": None, "has_exclusions": None}},
    "states": {"State": {
        "__init__": "release rows * rules=", "settings": "", "fresh": "history release=", "ruled": "word scope"}},
    "merging": {
        "Merge": {
            "__init__": "history state to", "chain": "slot other", "reply": "stands", "result": "", "report": "", "paper": "",
            "claims": None, "conflicts": None, "needs": None},
        "Question": {"falling": "stands"}},
    "installation": {"Installation": {
        "__init__": "history release=", "edit": "text", "put": "place value", "follow": "slot",
        "rule": "word * place= section=", "jump": "to * answers=", "undo": "", "journal": "",
        "replayed": "history journal * release=", "trace": "slot", "attempt": "function"}},
    "console": {"Console": {"__init__": "history release=", "say": "command"}},
}
SPECIAL = {
    ("files", "SettingsFile"): ["__len__", "__contains__", "__eq__", "__str__"], ("history", "History"): ["__len__"],
    ("states", "State"): ["__eq__", "__repr__"], ("merging", "Question"): ["__eq__"],
    ("installation", "Installation"): ["__len__", "__eq__"],
}
DEFAULTS = {"release": 0, "renames": (), "returns": (), "exclusions": (), "rules": (), "place": None, "section": None,
            "answers": ()}


def shape(function, bound):
    """The names of the parameters of a function as the tables above write them."""
    words, starred = [], False
    for at, (name, each) in enumerate(inspect.signature(function).parameters.items()):
        if at == 0 and bound:
            continue
        if each.kind is each.VAR_POSITIONAL:
            words.append("*" + name)
            starred = True
            continue
        if each.kind is each.KEYWORD_ONLY and not starred:
            words.append("*")
            starred = True
        words.append(name + ("" if each.default is each.empty else "="))
        if each.default is not each.empty and each.default != DEFAULTS[name]:
            words.append("with another default")
    return " ".join(words)


class ShapesTest(unittest.TestCase):
    def module(self, name):
        return importlib.import_module("settingsmerge." + name)

    def test_functions(self):
        for name, functions in FUNCTIONS.items():
            for function, words in functions.items():
                with self.subTest(function):
                    self.assertEqual(shape(getattr(self.module(name), function), False), words)

    def test_methods_stand_in_the_class_itself(self):
        for name, classes in CLASSES.items():
            for each, methods in classes.items():
                body = vars(getattr(self.module(name), each))
                for method, words in methods.items():
                    with self.subTest(each + "." + method):
                        thing = body[method]
                        if words is None:
                            self.assertIsInstance(thing, property)
                        else:
                            static = isinstance(thing, staticmethod)
                            self.assertEqual(shape(getattr(thing, "__func__", thing), not static), words)
        for (name, each), methods in SPECIAL.items():
            self.assertLessEqual(set(methods), set(vars(getattr(self.module(name), each))))

    def test_kinds_of_methods(self):
        self.assertIsInstance(vars(states.State)["fresh"], staticmethod)
        self.assertIsInstance(vars(installation.Installation)["replayed"], classmethod)
        self.assertTrue(inspect.isgeneratorfunction(ends.ends))
        self.assertTrue(inspect.isgeneratorfunction(files.SettingsFile.pairs))


class CallsByNameTest(unittest.TestCase):
    """Each function and method, by the names that the interface shows."""

    def setUp(self):
        releases = [history.Release(text=text("a.x=1", "a.y=1"), renames=[], returns=()),
                    history.Release(text=text("a.z=2", "a.y=1"), renames=[("a.x", "a.z")], returns=[])]
        self.history = history.History(*releases, exclusions=[])
        self.box = installation.Installation(history=self.history, release=0)

    def test_files(self):
        for function in [files.is_name, files.is_place, files.is_value]:
            self.assertIs(function(thing=None), False)
        file = files.SettingsFile(text="# t\n[a]\nx = 1\n#~ 0 b.c\n# end")
        self.assertEqual(file.lines, ["# t", "[a]", "x = 1", "#~ 0 b.c", "# end"])
        self.assertEqual((file.sections(), file.places(), file.kept()), (["a"], ["a.x"], [(0, "b.c", None)]))
        self.assertEqual((file.value(place="a.x"), file.block(thing="a"), file.tail()), ("1", ["# t"], ["# end"]))
        self.assertEqual((list(file.pairs()), len(file), "a.x" in file), ([("a.x", "1")], 1, True))

    def test_history(self):
        known = self.history
        self.assertEqual((len(known), known.slots, known.has_exclusions), (2, 2, False))
        self.assertEqual((known.MOST_RELEASES, history.History.MOST_SLOTS), (8, 12))
        self.assertEqual(known.place_of(slot=0, release=1), "a.z")
        self.assertEqual(known.shipped_value(slot=0, release=1), "2")
        self.assertEqual(known.slot_at(place="a.z", release=1), 0)
        self.assertEqual(known.shipped_text(release=1), text("a.z=2", "a.y=1"))
        self.assertEqual(known.kept_place(slot=0), (1, "a.z"))
        self.assertIs(known.excluded(slot=0, value="1", other=1, other_value=None), False)

    def test_conflicts(self):
        pairs = [(0, 1)]
        self.assertEqual(conflicts.least_cover(conflicts=pairs), ((0, "own"),))
        self.assertEqual(conflicts.matching(conflicts=pairs), ((0, 1),))
        self.assertIs(conflicts.is_cover(conflicts=pairs, thing=((1, "shipped"),)), True)
        self.assertIs(conflicts.is_matching(conflicts=pairs, thing=()), True)

    def test_states(self):
        fresh = states.State.fresh(history=self.history, release=1)
        same = states.State(release=1, rows=[("2", "follows", ()), ("1", "follows", ())], rules=[])
        self.assertEqual((fresh, fresh.settings(), repr(fresh)), (same, ["2", "1"], "State(1, 0 own, 0 held)"))
        self.assertEqual((fresh.release, fresh.rules), (1, ()))
        self.assertEqual(fresh.ruled(word="own", scope=("all", "")).rules, ((("all", ""), "own"),))
        new = text("a.z=7", "a.y=1")
        self.assertEqual(states.edited(history=self.history, state=fresh, text=new).settings(), ["7", "1"])

    def test_merging_and_layout(self):
        self.box.put(place="a.x", value="9")
        merge = merging.Merge(history=self.history, state=self.box.state, to=1)
        self.assertEqual((merge.claims, merge.conflicts, merge.needs), ([(0, "own"), (0, "shipped")], [(0, 0)], []))
        self.assertEqual((merge.fewest, merge.answers, merge.chain(slot=0, other=0)), (1, (), (0,)))
        question = merge.question
        self.assertEqual((question.claim, question.present, question.coming), ((0, "own"), "9", "2"))
        self.assertEqual(question.falling(stands=True), [(0, "shipped")])
        self.assertIs(checker.shows_fewest(merge=merge, paper=merge.paper()), True)
        self.assertIsNone(merge.reply(stands=True))
        self.assertEqual(merge.report(), [(0, ("answers", (0,)))])
        shown = layout.written(history=self.history, text=self.box.text, before=self.box.state, after=merge.result())
        self.assertEqual(shown, text("a.z=9", "a.y=1"))

    def test_installation(self):
        box = self.box
        self.assertIsNone(box.edit(text=text("a.x=9", "a.y=1")))
        self.assertIsNone(box.put(value=None, place="a.y"))
        self.assertIsNone(box.follow(slot=1))
        self.assertIsNone(box.rule(word="own", place="a.x", section="a"))
        self.assertIsNone(box.rule(word=None, place="a.x"))
        self.assertIsNone(box.rule(word=None, section="a"))
        self.assertEqual(box.jump(to=1, answers=[True]), [(0, ("answers", (0,)))])
        self.assertEqual(box.trace(slot=1), [(1, ("edit",)), (2, ("follow",))])
        again = installation.Installation.replayed(history=self.history, journal=box.journal(), release=0)
        self.assertEqual((again, len(again)), (box, 7))
        self.assertIsNone(box.undo())
        self.assertEqual(box.attempt(function=len), 6)
        self.assertEqual((box.text, box.state.release), (text("a.x=9", "a.y=1"), 0))

    def test_ends(self):
        self.box.put("a.x", "9")
        state = self.box.state
        self.assertEqual(len(list(ends.ends(history=self.history, state=state, walk=(1,)))), 2)
        paper = ends.parting(history=self.history, state=state, walk=(1, 0))
        self.assertEqual(paper, ("once", ((),)))
        self.assertIsNone(ends.parting_walk(history=self.history, state=state, to=1))
        self.assertEqual(ends.parting_slot(history=self.history, release=0, walk=(1, 0)), 0)
        self.assertIs(checker.shows_parting(history=self.history, state=state, walk=(1, 0), paper=paper), True)

    def test_checker_and_console(self):
        journal = self.box.journal()
        self.assertIs(checker.shows_journal(history=self.history, journal=journal, text=self.box.text, release=0), True)
        self.assertIs(checker.shows_journal(history=self.history, journal=journal, text=self.box.text), True)
        self.assertEqual(console.Console(history=self.history, release=1).say(command="value a.z"), "2 follows")

    def test_errors_can_be_raised_by_name(self):
        self.assertEqual(errors.Excluded(slot=0, other=1).other, 1)


if __name__ == "__main__":
    unittest.main()
