"""The console: its commands, their answers, and what it refuses."""

import unittest

from settingsmerge.console import Console
from settingsmerge.errors import (
    BadCommand, Excluded, NoDeed, NoPlace, NoRelease, NotOwn, Unanswered,
)
from settingsmerge.files import SettingsFile
from settingsmerge.history import History, Release
from settingsmerge.installation import Installation
from settingsmerge.merging import Merge
from things import NO_NUMBERS_BELOW_THREE, NO_STRINGS, ODD_STRINGS, text

# Slot 0 is net.port, later net.gate; 1 is net.host, which release 1 lacks; 2 is log.level, 3 ui.key of release 1 alone.
HISTORY = History(
    Release("[net]\nport = 80\nhost = any\n[log]\nlevel = 1"),
    Release("# New.\n\n[net]\ngate = 81\n[log]\nlevel = 1\n[ui]\nkey = q", renames=[("net.port", "net.gate")]),
    Release("[net]\ngate = 82\nhost = all\n[log]\nlevel = 2", returns=[(0, "net.host", "net.host")]),
    exclusions=[((0, "net.port", "90"), (0, "net.host", "all"))],
)
COMMANDS = [
    "put net.port 90", "drop net.host", "follow net.port", "own net", "shipped log.level", "forget -", "undo",
    "go 1 stands", "ask 2", "value net.port", "lines",
]


class ConsoleTest(unittest.TestCase):
    def setUp(self):
        self.console = Console(HISTORY)

    def say(self, *told):
        """Says each command and compares its answer; told are the commands, each followed by its answer."""
        for command, answer in zip(told[::2], told[1::2]):
            found = self.console.say(command)
            self.assertIs(type(found), str)
            self.assertEqual(found, answer, command)

    def shown(self):
        """What the console can tell of its installation, by its own commands."""
        found = [self.console.say("lines")]
        for place in ["net.port", "net.gate", "net.host", "log.level", "ui.key"]:
            try:
                found.append((place, self.console.say("value " + place)))
            except NoPlace:
                pass
        return found + [self.console.say("ask %d" % release) for release in range(3)]

    def assert_refused(self, error, told, **fields):
        before = self.shown()
        with self.assertRaises(error) as caught:
            self.console.say(told)
        self.assertIs(type(caught.exception), error)
        self.assertEqual(vars(caught.exception), fields)
        self.assertEqual(self.shown(), before)


class CommandsTest(ConsoleTest):
    def test_put(self):
        self.say("put net.port 90", "ok", "value net.port", "90 own", "put net.port 80", "ok", "value net.port", "80 follows",
                 "put log.level a-b-c", "ok", "value log.level", "a-b-c own", "put log.level 123456789012", "ok")

    def test_drop(self):
        self.say("drop net.host", "ok", "value net.host", "- own", "lines", "4", "drop net.host", "ok", "undo", "ok",
                 "value net.host", "- own", "undo", "ok", "value net.host", "any follows")

    def test_follow(self):
        self.say("put net.port 90", "ok", "follow net.port", "ok", "value net.port", "80 follows")
        self.assert_refused(NotOwn, "follow net.port", slot=0)
        self.assert_refused(NotOwn, "follow log.level", slot=2)

    def test_value(self):
        self.say("value net.port", "80 follows", "value net.host", "any follows", "value log.level", "1 follows",
                 "put net.port 90", "ok", "go 2 stands", "net.gate answers; net.host held; log.level free",
                 "value net.gate", "90 own", "value net.host", "any held", "value log.level", "2 follows")

    def test_a_held_slot_without_a_value(self):
        # In release 1 the host has no value, and none of them comes with release 2.
        self.say("go 1", "net.gate free; net.host free; ui.key free", "put net.gate 90", "ok",
                 "go 2 stands", "net.gate answers; net.host held; log.level free; ui.key free", "value net.host", "- held")

    def test_lines(self):
        self.say("lines", "5", "drop net.port", "ok", "lines", "4", "go 1 falls", "net.gate answers; net.host free; ui.key free",
                 "lines", "8")
        empty = Console(History(Release(""), Release("\n"), Release("# x")))
        self.assertEqual(empty.say("lines"), "0")
        empty.say("go 1")
        self.assertEqual(empty.say("lines"), "2")
        empty.say("go 2")
        self.assertEqual(empty.say("lines"), "1")

    def test_undo(self):
        self.assert_refused(NoDeed, "undo")
        self.say("put net.port 90", "ok", "own -", "ok", "go 1", "net.gate rule; net.host free; ui.key free",
                 "undo", "ok", "value net.port", "90 own", "undo", "ok", "ask 1", "1 net.gate own",
                 "undo", "ok", "value net.port", "80 follows")
        self.assert_refused(NoDeed, "undo")

    def test_questions_are_no_deeds(self):
        self.say("ask 1", "0", "value net.port", "80 follows", "lines", "5")
        self.assert_refused(NoDeed, "undo")


class RulesTest(ConsoleTest):
    def test_scopes(self):
        for scope in ["-", "net", "net.port"]:
            for word, value in [("own", "9 own"), ("shipped", "81 follows")]:
                self.setUp()
                self.say("put net.port 9", "ok", "ask 1", "1 net.gate own", word + " " + scope, "ok", "ask 1", "0",
                         "go 1", "net.gate rule; net.host free; ui.key free", "value net.gate", value)

    def test_forget(self):
        for scope in ["-", "net", "net.port"]:
            self.setUp()
            self.say("put net.port 9", "ok", "own " + scope, "ok", "ask 1", "0", "forget " + scope, "ok",
                     "ask 1", "1 net.gate own", "forget " + scope, "ok")

    def test_each_scope_has_a_rule_of_its_own(self):
        self.say("put net.port 9", "ok", "own -", "ok", "shipped net", "ok", "own net.port", "ok",
                 "forget net.port", "ok", "forget -", "ok", "go 1", "net.gate rule; net.host free; ui.key free",
                 "value net.gate", "81 follows")

    def test_sections_that_no_release_has(self):
        self.say("own zzz", "ok", "shipped abcdefgh", "ok", "forget q", "ok")

    def test_a_name_is_a_section(self):
        # There is a key called port as well, but a scope without a point is a section.
        self.say("put net.port 9", "ok", "own port", "ok", "ask 1", "1 net.gate own")

    def test_places_of_other_releases(self):
        for word in ["own", "shipped", "forget"]:
            for place in ["net.gate", "ui.key", "a.b"]:
                self.assert_refused(NoPlace, word + " " + place, place=place)


class JumpsTest(ConsoleTest):
    def test_the_report(self):
        self.say("go 0", "none", "go 1", "net.gate free; net.host free; ui.key free", "go 1", "none",
                 "go 0", "net.gate free; net.host free; ui.key free")

    def test_answers(self):
        for words, first, second in [("stands stands", "9 own", "me own"), ("stands falls", "9 own", "all follows"),
                                     ("falls stands", "82 follows", "me own"), ("falls falls", "82 follows", "all follows")]:
            self.setUp()
            self.say("put net.port 9", "ok", "put net.host me", "ok",
                     "go 2 " + words, "net.gate answers; net.host answers; log.level free",
                     "value net.gate", first, "value net.host", second)

    def test_more_answers_than_are_needed(self):
        self.say("go 2 stands falls stands", "net.gate free; net.host free; log.level free")

    def test_reasons(self):
        self.say("put net.port 90", "ok", "put log.level 7", "ok", "own log", "ok",
                 "go 2 stands", "net.gate answers; net.host held; log.level rule",
                 "go 2", "net.gate overruled; net.host held; log.level overruled",
                 "put net.gate 4", "ok", "go 2", "net.gate overruled; net.host free; log.level overruled")

    def test_places_of_slots_that_the_release_lacks(self):
        # The place of a slot is the one that a kept line would name.
        self.say("put net.host me", "ok", "go 1", "net.gate free; net.host free; ui.key free", "ask 2", "1 net.host own",
                 "ask 0", "0", "go 0", "net.gate free; net.host overruled; ui.key free")

    def test_too_few_answers(self):
        self.say("put net.port 9", "ok", "put net.host me", "ok")
        self.assert_refused(Unanswered, "go 2", claim=(0, "own"))
        self.assert_refused(Unanswered, "go 2 falls", claim=(1, "own"))

    def test_ask(self):
        self.say("ask 0", "0", "ask 1", "0", "ask 2", "0", "put net.port 9", "ok", "ask 0", "0", "ask 1", "1 net.gate own",
                 "put net.host me", "ok", "ask 2", "2 net.gate own", "put net.port 80", "ok", "ask 2", "1 net.host own")

    def test_ask_for_a_shipped_claim(self):
        # Two changes of the user stand against one new value, which the release brings for a third setting.
        clashes = [((0, "a.x", "3"), (0, "a.z", "2")), ((0, "a.y", "3"), (0, "a.z", "2"))]
        history = History(Release(text("a.x=1", "a.y=1", "a.z=1")), Release(text("a.x=1", "a.y=1", "a.z=2")), exclusions=clashes)
        self.console = Console(history)
        self.say("put a.x 3", "ok", "put a.y 3", "ok", "ask 1", "1 a.z shipped",
                 "go 1 falls", "a.x answers; a.y answers; a.z held")

    def test_no_release(self):
        for word in ["go", "ask"]:
            for release in [3, 4, 9, 10, 42, 99]:
                self.assert_refused(NoRelease, "%s %d" % (word, release), release=release)
        self.assert_refused(NoRelease, "go 3 stands falls", release=3)
        self.say("put net.port 9", "ok")
        self.assert_refused(NoRelease, "go 3", release=3)

    def test_the_release_is_an_integer(self):
        with self.assertRaises(NoRelease) as caught:
            self.console.say("ask 10")
        self.assertIs(type(caught.exception.release), int)


class RefusedTest(ConsoleTest):
    def test_no_strings(self):
        for thing in NO_STRINGS + [["undo"], ("undo",), ["put", "net.port", "90"], HISTORY]:
            self.assert_refused(BadCommand, thing, command=thing)

    def test_odd_strings(self):
        for thing in ODD_STRINGS + ["help", "exit", "jump 1", "edit x", "rule own", "puts net.port 9", "pu net.port 9", "1", "stands"]:
            self.assert_refused(BadCommand, thing, command=thing)

    def test_capital_letters(self):
        for command in COMMANDS:
            for wrong in [command.upper(), command.capitalize(), command.title()]:
                self.assert_refused(BadCommand, wrong, command=wrong)
        for wrong in ["put Net.port 9", "put net.port A", "go 1 Stands", "own Net", "value net.Port"]:
            self.assert_refused(BadCommand, wrong, command=wrong)

    def test_too_few_words(self):
        for wrong in ["put", "put net.port", "drop", "follow", "own", "shipped", "forget", "go", "ask", "value", "go stands"]:
            self.assert_refused(BadCommand, wrong, command=wrong)

    def test_too_many_words(self):
        for command in COMMANDS:
            for more in ["x", "-", "1", "net.port"]:
                wrong = command + " " + more
                self.assert_refused(BadCommand, wrong, command=wrong)
        for wrong in ["undo undo", "lines 1", "undo 1", "ask 1 stands", "put net.port 9 9", "own - -", "own net net.port"]:
            self.assert_refused(BadCommand, wrong, command=wrong)

    def test_empty_words(self):
        for command in COMMANDS:
            words = command.split(" ")
            for at in range(len(words) + 1):
                wrong = " ".join(words[:at] + [""] + words[at:])
                self.assert_refused(BadCommand, wrong, command=wrong)
            for at in range(len(words)):
                wrong = " ".join(words[:at] + [""] + words[at + 1:])
                self.assert_refused(BadCommand, wrong, command=wrong)

    def test_other_spaces(self):
        for wrong in ["put\nnet.port\n9", "undo\n", "\nundo", "put net.port 9\n", "go 1\nstands", "lines\n\n"]:
            self.assert_refused(BadCommand, wrong, command=wrong)

    def test_releases_that_are_written_otherwise(self):
        for word in ["00", "01", "09", "-1", "-0", "+1", "100", "1.", "1.0", "a", "1a", "0x1", "one", "-", "000", "1_0"]:
            for command in ["go " + word, "ask " + word, "go %s stands" % word]:
                self.assert_refused(BadCommand, command, command=command)

    def test_answers_that_are_written_otherwise(self):
        for word in ["yes", "True", "true", "1", "stand", "fall", "own", "shipped", "-", "stands,", "0"]:
            for command in ["go 1 " + word, "go 1 stands " + word, "go 1 %s falls" % word, "go 9 " + word]:
                self.assert_refused(BadCommand, command, command=command)

    def test_words_that_are_no_places(self):
        for word in ["net", "net.", ".port", "net.port.x", "net..port", "net.p0rt", "abcdefghi.b", "a.abcdefghi", "0", "-"]:
            for command in ["put %s 9" % word, "drop " + word, "follow " + word, "value " + word]:
                self.assert_refused(BadCommand, command, command=command)

    def test_words_that_are_no_values(self):
        for word in ["-", "-1", "1234567890123", "a.b", "A", "a_b", "=", "N"]:
            command = "put net.port " + word
            self.assert_refused(BadCommand, command, command=command)

    def test_words_that_are_no_scopes(self):
        for word in ["--", "a-b", "0", "net.", ".port", "net.port.x", "abcdefghi", "net1", "*", "all."]:
            for verb in ["own", "shipped", "forget"]:
                command = verb + " " + word
                self.assert_refused(BadCommand, command, command=command)

    def test_no_place(self):
        for place in ["net.gate", "ui.key", "a.b", "abcdefgh.abcdefgh", "port.net"]:
            for command in ["put %s 9", "drop %s", "follow %s", "value %s", "own %s", "shipped %s", "forget %s"]:
                self.assert_refused(NoPlace, command % place, place=place)

    def test_bad_commands_come_before_places(self):
        for command in ["put a.b -", "put a.b", "drop a.b 9", "follow a.b x", "own a.b -", "value a.b 1"]:
            self.assert_refused(BadCommand, command, command=command)

    def test_what_the_deeds_raise(self):
        self.say("go 2", "net.gate free; net.host free; log.level free")
        self.assert_refused(Excluded, "put net.gate 90", slot=0, other=1)
        self.say("drop net.host", "ok", "put net.gate 90", "ok")
        self.assert_refused(Excluded, "put net.host all", slot=0, other=1)
        self.assert_refused(Excluded, "follow net.host", slot=0, other=1)
        self.assert_refused(NotOwn, "follow log.level", slot=2)

    def test_no_place_before_what_the_deeds_raise(self):
        self.say("go 1", "net.gate free; net.host free; ui.key free")
        self.assert_refused(NoPlace, "put net.host all", place="net.host")
        self.assert_refused(NoPlace, "follow net.host", place="net.host")


class ConsolesTest(ConsoleTest):
    def test_releases(self):
        for release, place in [(0, "net.port"), (1, "net.gate"), (2, "net.gate")]:
            console = Console(HISTORY, release)
            self.assertEqual(console.say("value " + place), "%d follows" % (80 + release))
        for thing in NO_NUMBERS_BELOW_THREE:
            with self.assertRaises(NoRelease) as caught:
                Console(HISTORY, thing)
            self.assertIs(caught.exception.release, thing)

    def test_two_consoles_by_turns(self):
        other = Console(HISTORY)
        self.say("put net.port 90", "ok")
        self.assertEqual(other.say("value net.port"), "80 follows")
        other.say("put net.port 7")
        self.say("value net.port", "90 own", "undo", "ok", "value net.port", "80 follows")
        self.assertEqual(other.say("value net.port"), "7 own")

    def test_the_same_as_an_installation(self):
        box = Installation(HISTORY)
        deeds = [
            ("put net.port 9", lambda: box.put("net.port", "9")), ("drop net.host", lambda: box.put("net.host", None)),
            ("own log", lambda: box.rule("own", section="log")), ("put log.level 5", lambda: box.put("log.level", "5")),
            ("shipped net.port", lambda: box.rule("shipped", place="net.port")),
            ("go 2 stands", lambda: box.jump(2, answers=[True])), ("forget log", lambda: box.rule(None, section="log")),
            ("put net.gate 3", lambda: box.put("net.gate", "3")), ("go 1 falls", lambda: box.jump(1, answers=[False])),
            ("undo", lambda: box.undo()), ("follow net.gate", lambda: box.follow(0)), ("go 0", lambda: box.jump(0)),
        ]
        for command, deed in deeds:
            answer = self.console.say(command)
            report = deed()
            if report is None:
                self.assertEqual(answer, "ok")
            else:
                told = ["%s %s" % (HISTORY.kept_place(slot)[1], reason[0]) for slot, reason in report]
                self.assertEqual(answer, "; ".join(told) or "none")
            self.say("lines", str(len(SettingsFile(box.text).lines)))
            for place in SettingsFile(HISTORY.shipped_text(box.state.release)).places():
                value, status, overruled = box.state.rows[HISTORY.slot_at(place, box.state.release)]
                self.say("value " + place, "%s %s" % (value or "-", status))
            for release in range(3):
                merge = Merge(HISTORY, box.state, release)
                first = [] if merge.question is None else [HISTORY.kept_place(merge.question.claim[0])[1], merge.question.claim[1]]
                self.say("ask %d" % release, " ".join([str(merge.fewest)] + first))


if __name__ == "__main__":
    unittest.main()
