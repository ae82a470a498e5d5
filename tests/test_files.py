"""Texts, lines and files [4, 5]."""

import inspect
import itertools
import unittest

from settingsmerge.errors import BadText, NoPlace
from settingsmerge.files import SettingsFile
from things import NO_STRINGS, ODD_STRINGS

RICH = "\n".join([
    "# above",
    "",
    "#~ 3 old.key = 1-a",
    "#second",
    "[net]",
    "",
    "# port",
    "port = 80",
    "host = any",
    "[empty]",
    "#~ 12 old.key",
    "# log 1",
    "#~ 0 net.port = 80",
    "",
    "# log 2",
    "[log]",
    "#",
    "port = off-",
    "# end 1",
    "#~ 99 a.b",
    "",
    "# end 2",
    "#~ 3 old.other",
])


class FilesTest(unittest.TestCase):
    def assert_holds(self, text, lines, sections=(), pairs=(), kept=(), tail=()):
        file = SettingsFile(text)
        self.assertEqual(file.lines, list(lines))
        self.assertEqual(file.sections(), list(sections))
        self.assertEqual(file.places(), [place for place, value in pairs])
        self.assertEqual(list(file.pairs()), list(pairs))
        self.assertEqual([file.value(place) for place in file.places()], [value for place, value in pairs])
        self.assertEqual(file.kept(), list(kept))
        self.assertEqual(file.tail(), list(tail))
        self.assertEqual(len(file), len(pairs))
        self.assertEqual(str(file), text)
        for place, value in pairs:
            self.assertIs(place in file, True)
        return file

    def test_no_lines(self):
        self.assert_holds("", [])

    def test_blank_lines_alone(self):
        self.assert_holds("\n", ["", ""], tail=["", ""])
        self.assert_holds("\n\n\n", ["", "", "", ""], tail=["", "", "", ""])

    def test_remarks_alone(self):
        for remark in ["#", "##", "# ~", "# a = 1", "#[a]", "#1 a.b", "# \\ \"'`~!", "# #~ 1 a.b", "# ", "#" * 300]:
            with self.subTest(remark):
                self.assert_holds(remark, [remark], tail=[remark])

    def test_kept_lines_alone(self):
        self.assert_holds("#~ 0 a.b", ["#~ 0 a.b"], kept=[(0, "a.b", None)])
        self.assert_holds("#~ 10 a.b = x-1", ["#~ 10 a.b = x-1"], kept=[(10, "a.b", "x-1")])

    def test_kept_releases(self):
        for release in [0, 1, 7, 8, 9, 10, 11, 20, 90, 99]:
            with self.subTest(release):
                kept = SettingsFile("#~ %d a.b = 0" % release).kept()
                self.assertEqual(kept, [(release, "a.b", "0")])
                self.assertIs(type(kept[0][0]), int)

    def test_same_place_with_different_releases(self):
        text = "#~ 1 a.b\n#~ 2 a.b = x\n#~ 12 a.b = x\n#~ 2 a.c"
        kept = [(1, "a.b", None), (2, "a.b", "x"), (12, "a.b", "x"), (2, "a.c", None)]
        self.assert_holds(text, text.split("\n"), kept=kept)

    def test_sections_without_settings(self):
        self.assert_holds("[a]", ["[a]"], sections=["a"])
        self.assert_holds("[b]\n[a]\n", ["[b]", "[a]", ""], sections=["b", "a"], tail=[""])
        self.assert_holds("[abcdefgh]", ["[abcdefgh]"], sections=["abcdefgh"])

    def test_settings_in_their_order(self):
        text = "[b]\nz = 1\na = 2\n[a]\nz = 1\nb = 3"
        pairs = [("b.z", "1"), ("b.a", "2"), ("a.z", "1"), ("a.b", "3")]
        self.assert_holds(text, text.split("\n"), sections=["b", "a"], pairs=pairs)

    def test_longest_setting(self):
        text = "[abcdefgh]\nabcdefgh = abcdefghijkl"
        pairs = [("abcdefgh.abcdefgh", "abcdefghijkl")]
        self.assert_holds(text, text.split("\n"), sections=["abcdefgh"], pairs=pairs)

    def test_a_place_may_be_set_and_kept(self):
        text = "[a]\nb = 1\n#~ 1 a.b = 2"
        self.assert_holds(text, text.split("\n"), ["a"], [("a.b", "1")], [(1, "a.b", "2")])

    def test_rich_file(self):
        file = self.assert_holds(
            RICH,
            RICH.split("\n"),
            sections=["net", "empty", "log"],
            pairs=[("net.port", "80"), ("net.host", "any"), ("log.port", "off-")],
            kept=[
                (3, "old.key", "1-a"), (12, "old.key", None), (0, "net.port", "80"), (99, "a.b", None),
                (3, "old.other", None),
            ],
            tail=["# end 1", "", "# end 2"],
        )
        self.assertEqual(file.block("net"), ["# above", "", "#second"])
        self.assertEqual(file.block("net.port"), ["", "# port"])
        self.assertEqual(file.block("net.host"), [])
        self.assertEqual(file.block("empty"), [])
        self.assertEqual(file.block("log"), ["# log 1", "", "# log 2"])
        self.assertEqual(file.block("log.port"), ["#"])

    def test_long_text(self):
        text = "[a]\n" + "# remark\n" * 1000 + "x = 1"
        file = SettingsFile(text)
        self.assertEqual(file.block("a.x"), ["# remark"] * 1000)

    def test_many_settings(self):
        names = ["".join(letters) for letters in itertools.product("abcdefgh", repeat=3)]
        file = SettingsFile("[a]\n" + "\n".join(name + " = " + name for name in names))
        self.assertEqual(len(file), 512)
        self.assertEqual(list(file.pairs()), [("a." + name, name) for name in names])


class BlocksTest(unittest.TestCase):
    def test_remarks_above_the_first_header(self):
        self.assertEqual(SettingsFile("#1\n\n[a]").block("a"), ["#1", ""])
        self.assertEqual(SettingsFile("#1\n#~ 1 a.b\n#2\n[a]").block("a"), ["#1", "#2"])

    def test_no_remarks(self):
        file = SettingsFile("[a]\nx = 1\n[b]\n#~ 1 a.b\ny = 2")
        self.assertEqual([file.block(thing) for thing in ["a", "a.x", "b", "b.y"]], [[], [], [], []])
        self.assertEqual(file.tail(), [])

    def test_block_of_a_setting_and_of_the_next_header(self):
        file = SettingsFile("[a]\n#1\nx = 1\n#2\n\n[b]\n\n#3\ny = 2\n#4")
        self.assertEqual(file.block("a.x"), ["#1"])
        self.assertEqual(file.block("b"), ["#2", ""])
        self.assertEqual(file.block("b.y"), ["", "#3"])
        self.assertEqual(file.tail(), ["#4"])

    def test_equal_names_of_sections_and_keys(self):
        file = SettingsFile("#1\n[a]\n#2\na = 1\n#3\nb = 1\n#4\n[b]\n#5\na = 1\n#6\nb = 1")
        blocks = [file.block(thing) for thing in ["a", "a.a", "a.b", "b", "b.a", "b.b"]]
        self.assertEqual(blocks, [["#1"], ["#2"], ["#3"], ["#4"], ["#5"], ["#6"]])

    def test_tail_behind_a_header_and_with_kept_lines_amid(self):
        self.assertEqual(SettingsFile("[a]\n#1\n#~ 1 a.b\n\n#~ 2 a.b\n#2").tail(), ["#1", "", "#2"])

    def test_tail_of_all(self):
        self.assertEqual(SettingsFile("#1\n#~ 1 a.b\n\n#2").tail(), ["#1", "", "#2"])

    def test_no_place(self):
        file = SettingsFile(RICH)
        strings = ["old.key", "a.b", "net.key", "port", "[net]", "nets", "net.", "net.port ", "NET", "log.host"]
        for thing in NO_STRINGS + ODD_STRINGS + strings:
            for method in [file.value, file.block]:
                with self.subTest(thing=thing, method=method.__name__), self.assertRaises(NoPlace) as caught:
                    method(thing)
                self.assertIs(caught.exception.place, thing)

    def test_a_section_has_a_block_but_no_value(self):
        file = SettingsFile(RICH)
        self.assertEqual(file.block("log"), ["# log 1", "", "# log 2"])
        with self.assertRaises(NoPlace) as caught:
            file.value("log")
        self.assertEqual(caught.exception.place, "log")

    def test_arguments_by_name(self):
        file = SettingsFile(text=RICH)
        self.assertEqual(file.value(place="net.port"), "80")
        self.assertEqual(file.block(thing="net.port"), ["", "# port"])
        with self.assertRaises(NoPlace):
            file.value(place=[])
        with self.assertRaises(NoPlace):
            file.block(thing=[])


class ObjectsTest(unittest.TestCase):
    def test_in(self):
        file = SettingsFile(RICH)
        for place in ["net.port", "net.host", "log.port"]:
            self.assertIs(place in file, True)
        for thing in NO_STRINGS + ODD_STRINGS + ["net", "old.key", "port", "log.host", ("net.port", "80"), ["net.port"]]:
            with self.subTest(thing):
                self.assertIs(thing in file, False)
                self.assertIs(thing not in file, True)

    def test_len(self):
        self.assertEqual([len(SettingsFile(text)) for text in ["", "\n", "[a]", "[a]\nx = 1", RICH]], [0, 0, 0, 1, 3])

    def test_equal(self):
        texts = ["", "\n", "\n\n", "[a]", "[a]\n", "[a]\nx = 1", "[a]\nx = 2", "[a]\n#\nx = 1", "#~ 1 a.b", "#~ 1 a.b = 1"]
        for text, other in itertools.product(texts, repeat=2):
            self.assertIs(SettingsFile(text) == SettingsFile(other), text == other)
            self.assertIs(SettingsFile(text) != SettingsFile(other), text != other)

    def test_equal_nothing_else(self):
        for text in ["", "[a]\nx = 1", RICH]:
            file = SettingsFile(text)
            for thing in NO_STRINGS + ODD_STRINGS + [text, file.lines, file.places(), object()]:
                with self.subTest(thing=thing):
                    self.assertIs(file == thing, False)
                    self.assertIs(thing == file, False)
                    self.assertIs(file != thing, True)

    def test_str(self):
        for text in ["", "\n", "[a]\n", RICH, RICH + "\n\n"]:
            self.assertEqual(str(SettingsFile(text)), text)
            self.assertIs(type(str(SettingsFile(text))), str)

    def test_lines_is_a_property(self):
        self.assertIsInstance(SettingsFile.lines, property)
        self.assertEqual(SettingsFile("\n#").lines, ["", "#"])

    def test_pairs_is_a_generator(self):
        pairs = SettingsFile(RICH).pairs()
        self.assertTrue(inspect.isgenerator(pairs))
        self.assertEqual(next(pairs), ("net.port", "80"))
        self.assertEqual(list(pairs), [("net.host", "any"), ("log.port", "off-")])
        self.assertEqual(list(SettingsFile("[a]").pairs()), [])

    def test_returned_lists_are_new(self):
        file, same = SettingsFile(RICH), SettingsFile(RICH)
        asks = [
            lambda: file.lines, file.sections, file.places, file.kept, file.tail,
            lambda: file.block("net"), lambda: file.block("net.host"), lambda: file.block("log.port"),
        ]
        for ask in asks:
            before = ask()
            self.assertIs(type(before), list)
            self.assertIsNot(ask(), before)
            changed = ask()
            changed.append("changed")
            changed.reverse()
            self.assertEqual(ask(), before)
            changed = ask()
            changed.clear()
            self.assertEqual(ask(), before)
        self.assertEqual(str(file), RICH)
        self.assertEqual(len(file), 3)
        self.assertEqual(file, same)

    def test_methods_stand_in_the_class(self):
        for name in ["sections", "places", "value", "kept", "block", "tail", "pairs", "lines", "__len__",
                     "__contains__", "__eq__", "__str__"]:
            self.assertIn(name, vars(SettingsFile))


class NoFilesTest(unittest.TestCase):
    def assert_bad(self, text, line, kind):
        with self.subTest(text=text), self.assertRaises(BadText) as caught:
            SettingsFile(text)
        self.assertEqual((caught.exception.line, caught.exception.kind), (line, kind))

    def test_no_string(self):
        for thing in NO_STRINGS:
            self.assert_bad(thing, -1, "text")
        with self.assertRaises(BadText) as caught:
            SettingsFile(text=None)
        self.assertEqual((caught.exception.line, caught.exception.kind), (-1, "text"))

    def test_lines_without_a_form(self):
        for line in [
            "a=1", "[a] ", "a = ", " ", "a", "=", " = ", "= 1", " = 1", "a =", "a= 1", "a =1", "a  = 1", "a =  1", " a = 1",
            "a = 1 ", "a = -1", "a = A", "A = 1", "a = 1 = 2", "a = 1 # x", "a.b = 1", "1 = a", "a = a.b", "a\t= 1",
            "abcdefghi = 1", "a = abcdefghijklm", "[]", "[", "]", "[a", "a]", " [a]", "[ a]", "[a ]", "[A]", "[a.b]",
            "[1]", "[[a]]", "[a][b]", "[abcdefghi]", "[a]#", "xa]", "[ax", "xax", "(a]", "[a)", "]a[", "[a] # x", " #", " # x",
            " #~ 1 a.b", "~", "~# 1 a.b", "  ", "a = 1\r", "[a]\r", "-", "a = 1\t", ";", "; x",
        ]:
            self.assert_bad(line, 0, "line")
            self.assert_bad("[x]\n" + line, 1, "line")
            self.assert_bad("[x]\ny = 1\n#\n\n" + line + "\n", 4, "line")

    def test_no_kept_lines(self):
        for line in [
            "#~", "#~ ", "#~~", "#~x", "#~1 a.b", "#~ 1", "#~ 1 ", "#~ a.b", "#~  1 a.b", "#~ 1  a.b", "#~ 1 a.b ", "#~ 1 a.b =",
            "#~ 1 a.b = ", "#~ 1 a.b=1", "#~ 1 a.b =1", "#~ 1 a.b= 1", "#~ 1 a.b  = 1", "#~ 1 a.b =  1", "#~ 1 a.b = 1 ",
            "#~ 1 a.b = -1", "#~ 1 a.b = A", "#~ 1 a.b = 1 = 2", "#~ 1 a = 1", "#~ 1 a", "#~ 1 a.b.c", "#~ 1 .b", "#~ 1 a.",
            "#~ 1 A.b", "#~ 1 abcdefghi.b", "#~ 1 a.abcdefghi", "#~ 1 a.b = abcdefghijklm", "#~ 1 a.b 1", "#~ 1 2 a.b",
            "#~ a a.b", "#~ a.b 1", "#~ x1 a.b", "#~ 1 a.b # x", "#~ = 1", "#~ 1 = 1", "#~ 1  = 1", "#~\t1 a.b", "#~ 1\ta.b",
            "#~~ 1 a.b", "#~ #~ 1 a.b", "#~ [a]", "#~ a = 1",
        ]:
            self.assert_bad(line, 0, "kept")
            self.assert_bad("#\n[x]\n" + line + "\ny = 1", 2, "kept")

    def test_no_releases(self):
        for release in [
            "00", "01", "09", "000", "010", "100", "123", "-1", "-0", "+1", "+", "-", "1.", "1.0", "1_0", "0x1", "a", "", " 1",
            "1-", "\u0661", "\xb2",
        ]:
            self.assert_bad("#~ " + release + " a.b", 0, "kept")
            self.assert_bad("#~ " + release + " a.b = 1", 0, "kept")

    def test_outside(self):
        self.assert_bad("a = 1", 0, "outside")
        self.assert_bad("#\n\n#~ 1 a.b\na = 1\n[a]", 3, "outside")
        self.assert_bad("a = 1\na = 1", 0, "outside")

    def test_section_again(self):
        self.assert_bad("[a]\n[a]", 1, "section")
        self.assert_bad("[a]\nx = 1\n[b]\nx = 1\n\n#\n[a]\ny = 2", 6, "section")
        self.assert_bad("[a]\n[b]\n[b]\n[a]", 2, "section")

    def test_key_again(self):
        self.assert_bad("[a]\nx = 1\nx = 1", 2, "key")
        self.assert_bad("[b]\nx = 1\n[a]\nx = 1\ny = 2\n#\nx = 3", 6, "key")
        self.assert_bad("[a]\nx = 1\ny = 2\ny = 1\nx = 2", 3, "key")

    def test_kept_line_again(self):
        self.assert_bad("#~ 1 a.b\n#~ 1 a.b", 1, "again")
        self.assert_bad("#~ 1 a.b = 1\n#~ 1 a.b = 2", 1, "again")
        self.assert_bad("#~ 1 a.b = 1\n#~ 1 a.b", 1, "again")
        self.assert_bad("#~ 1 a.b\n#~ 2 a.b\n#\n[a]\nb = 1\n#~ 1 a.b = 1", 5, "again")
        self.assert_bad("#~ 0 a.b\n#~ 10 a.b\n#~ 0 a.b", 2, "again")

    def test_first_of_several_lines(self):
        start = ["[a]", "x = 1", "#~ 1 a.b"]
        faults = {"kept": "#~ 1", "line": "x=1", "section": "[a]", "key": "x = 2", "again": "#~ 1 a.b = 1"}
        for kinds in itertools.permutations(faults):
            self.assert_bad("\n".join(start + [faults[kind] for kind in kinds]), 3, kinds[0])

    def test_first_of_several_lines_above_the_first_header(self):
        faults = {"kept": "#~ 1", "line": "x=1", "outside": "x = 2", "again": "#~ 1 a.b = 1"}
        for kinds in itertools.permutations(faults):
            text = "\n".join(["", "#~ 1 a.b"] + [faults[kind] for kind in kinds] + ["[a]", "[a]"])
            self.assert_bad(text, 2, kinds[0])

    def test_more_than_one_kind_for_a_line(self):
        # Such a line has none of the forms either, but "kept" comes first.
        self.assert_bad("[a]\n#~ 1 a.b \n#~ 1 a.b ", 1, "kept")
        self.assert_bad("#~ 1 a.b\n#~ 1 a.b =", 1, "kept")
        # A setting above the first header that occurs twice is outside at once.
        self.assert_bad("#\nx = 1\nx = 1\n[a]", 1, "outside")


if __name__ == "__main__":
    unittest.main()
