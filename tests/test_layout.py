"""Texts that are written anew [9, 19, 20]."""

import unittest

from settingsmerge.history import History, Release
from settingsmerge.layout import written
from settingsmerge.merging import Merge
from settingsmerge.states import State, edited


def joined(*lines):
    return "\n".join(lines)


def row(value, status="follows", *overruled):
    return (value, status, overruled)


class LayoutTest(unittest.TestCase):
    def jump(self, history, own, to, answer=True, release=0):
        """Edits the shipped text into the own one, jumps, and returns the text that is written then."""
        before = edited(history, State.fresh(history, release), own)
        merge = Merge(history, before, to)
        while merge.question:
            merge.reply(answer)
        return self.write(history, own, before, merge.result())

    def write(self, history, own, before, after):
        """The written text, which shows the state after, and which stays as it is when it is written again."""
        new = written(history, own, before, after)
        self.assertIs(type(new), str)
        self.assertEqual(edited(history, after, new), after)
        self.assertEqual(written(history, new, after, after), new)
        return new

    def assert_jump(self, shipped, own, later, expected, answer=True, renames=(), exclusions=()):
        history = History(Release(shipped), Release(later, renames=renames), exclusions=exclusions)
        self.assertEqual(self.jump(history, own, 1, answer), expected)


class WholeTextsTest(LayoutTest):
    def test_by_name(self):
        history = History(Release("[a]\nx = 1"), Release("[a]\nx = 2"))
        before, after = State.fresh(history), State.fresh(history, 1)
        self.assertEqual(written(history=history, text="[a]\nx = 1", before=before, after=after), "[a]\nx = 2")

    def test_a_fresh_state_has_the_shipped_text(self):
        texts = ["", "\n", "# x", "[a]\nx = 1", "\n[a]\n\nx = 1\n", "# 1\n[a]\n# 2\nx = 1\n# 3\n[b]\n# 4", "[b]\n[a]\ny = 1"]
        history = History(*[Release(shipped) for shipped in texts])
        for before in range(len(texts)):
            for after in range(len(texts)):
                found = self.write(
                    history, texts[before], State.fresh(history, before), State.fresh(history, after))
                self.assertEqual(found, texts[after])

    def test_values_that_change(self):
        self.assert_jump("[a]\nx = 1\ny = 1\nz = 1", "[a]\nx = 7\ny = 1\nz = 8", "[a]\nx = 2\ny = 2\nz = 1",
                         "[a]\nx = 7\ny = 2\nz = 8")
        self.assert_jump("[a]\nx = 1\ny = 1\nz = 1", "[a]\nx = 7\ny = 1\nz = 8", "[a]\nx = 2\ny = 2\nz = 1",
                         "[a]\nx = 2\ny = 2\nz = 8", answer=False)

    def test_a_deleted_line_stays_deleted(self):
        self.assert_jump("[a]\nx = 1\ny = 1", "[a]\ny = 1", "[a]\nx = 2\ny = 2", "[a]\ny = 2")

    def test_sections_that_come_and_go(self):
        self.assert_jump("[a]\nx = 1\n[b]\ny = 1", "[a]\nx = 1\n[b]\ny = 1", "[c]\nz = 1\n[b]\ny = 1",
                         "[c]\nz = 1\n[b]\ny = 1")
        self.assert_jump("[a]\n[b]", "[b]\n[a]", "[b]\n[c]", "[b]\n[c]")
        self.assert_jump("[a]\n[b]", "[b]", "[a]\n[b]\n[c]", "[a]\n[b]\n[c]")

    def test_headers_stand_in_the_shipped_order(self):
        self.assert_jump("[a]\nx = 1\n[b]\ny = 1", "[b]\ny = 7\n[a]\nx = 8", "[a]\nx = 1\n[b]\ny = 1",
                         "[a]\nx = 8\n[b]\ny = 7")
        self.assert_jump("[a]\nx = 1\n[b]\ny = 1", "[a]\nx = 8\n[b]\ny = 7", "[b]\ny = 1\n[a]\nx = 1",
                         "[b]\ny = 7\n[a]\nx = 8")

    def test_a_header_without_settings_is_written(self):
        self.assert_jump("[a]\nx = 1\n[b]", "", "[a]\nx = 2\n[b]", "[a]\n[b]")

    def test_no_lines(self):
        self.assert_jump("[a]\nx = 1", "[a]\nx = 1", "", "")
        self.assert_jump("", "", "", "")

    def test_a_single_blank_line_is_the_empty_string(self):
        history = History(Release("[a]\nx = 1"), Release(""))
        before = State(1, [row("3", "own", "1")])
        own = "\n#~ 0 a.x = 3"
        self.assertEqual(edited(history, before, own), before)
        self.assertEqual(self.write(history, own, before, State.fresh(history, 1)), "")
        self.assertEqual(self.write(history, own, before, before), own)
        self.assertEqual(self.write(history, "\n\n#~ 0 a.x = 3", before, State.fresh(history, 1)), "\n")

    def test_arguments_stay_as_they_are(self):
        history = History(Release("[a]\nx = 1"), Release("[a]\nx = 2"))
        before, after = State(0, [row("3", "own", "1")]), State(1, [row("3", "own", "1", "2")])
        written(history, "[a]\nx = 3", before, after)
        self.assertEqual((before.release, before.rows), (0, (row("3", "own", "1"),)))
        self.assertEqual((after.release, after.rows), (1, (row("3", "own", "1", "2"),)))

    def test_a_value_put_in_the_same_release(self):
        history = History(Release("# t\n[a]\nx = 1\n# y\ny = 1\nz = 1"))
        own = "[a]\nz = 1\n# mine\nx = 5"
        before = edited(history, State.fresh(history), own)
        after = State(0, [row("6", "own", "1"), row("2", "own", "1"), row("1")])
        self.assertEqual(self.write(history, own, before, after), "[a]\nz = 1\n# mine\nx = 6\n# y\ny = 2")


class OrderTest(LayoutTest):
    def test_the_order_of_the_user_stays(self):
        self.assert_jump("[a]\nx = 1\ny = 1\nz = 1", "[a]\nz = 1\nx = 1\ny = 1", "[a]\nx = 2\ny = 2\nz = 2",
                         "[a]\nz = 2\nx = 2\ny = 2")

    def test_the_order_of_the_release_does_not_change_that_of_the_text(self):
        self.assert_jump("[a]\nx = 1\ny = 1", "[a]\nx = 1\ny = 1", "[a]\ny = 2\nx = 2", "[a]\nx = 2\ny = 2")

    def test_new_settings_behind_the_nearest_one_above(self):
        own = "[a]\nz = 1\ny = 1\nx = 1"
        for later, expected in [
            ("x = 1|n = 1|y = 1|z = 1", "z = 1|y = 1|x = 1|n = 1"),
            ("x = 1|y = 1|n = 1|z = 1", "z = 1|y = 1|n = 1|x = 1"),
            ("x = 1|y = 1|z = 1|n = 1", "z = 1|n = 1|y = 1|x = 1"),
            ("n = 1|x = 1|y = 1|z = 1", "n = 1|z = 1|y = 1|x = 1"),
            ("n = 1|m = 1|x = 1|y = 1|z = 1", "n = 1|m = 1|z = 1|y = 1|x = 1"),
            ("m = 1|x = 1|n = 1|o = 1|y = 1|z = 1", "m = 1|z = 1|y = 1|x = 1|n = 1|o = 1"),
            ("x = 1|m = 1|z = 1|n = 1|y = 1", "z = 1|n = 1|y = 1|x = 1|m = 1"),
        ]:
            self.assert_jump("[a]\nx = 1\ny = 1\nz = 1", own, "[a]\n" + later.replace("|", "\n"),
                             "[a]\n" + expected.replace("|", "\n"))

    def test_settings_without_a_value_are_passed_over(self):
        # y is deleted, so that the new n stands behind x, which is the nearest one above with a place.
        self.assert_jump("[a]\nx = 1\ny = 1\nz = 1", "[a]\nz = 1\nx = 1", "[a]\nx = 1\ny = 2\nn = 1\nz = 1",
                         "[a]\nz = 1\nx = 1\nn = 1")

    def test_a_deleted_setting_that_comes_back(self):
        self.assert_jump("[a]\nx = 1\ny = 1\nz = 1", "[a]\nz = 1\nx = 1", "[a]\nx = 1\ny = 2\nz = 1",
                         "[a]\nz = 1\nx = 1\ny = 2", answer=False)

    def test_settings_that_move_within_a_section(self):
        self.assert_jump("[a]\nx = 1\ny = 1", "[a]\ny = 7\nx = 8", "[a]\nn = 1\nm = 1",
                         "[a]\nm = 7\nn = 8", renames=[("a.x", "a.n"), ("a.y", "a.m")])

    def test_settings_that_swap_places(self):
        self.assert_jump("[a]\nx = 1\ny = 1", "[a]\nx = 7\ny = 8", "[a]\nx = 1\ny = 1",
                         "[a]\ny = 7\nx = 8", renames=[("a.x", "a.y"), ("a.y", "a.x")])

    def test_a_new_setting_at_the_place_that_another_one_left(self):
        self.assert_jump("[a]\nx = 1", "[a]\n# mine\nx = 7", "[a]\nx = 5\ny = 1",
                         "[a]\nx = 5\n# mine\ny = 7", renames=[("a.x", "a.y")])

    def test_settings_that_move_to_another_section(self):
        # In the section b, x has no place of its own from the text before, though it had a line in a.
        self.assert_jump("[a]\nw = 1\nx = 1\n[b]\ny = 1\nz = 1", "[b]\nz = 1\ny = 1\n[a]\nx = 7\nw = 1",
                         "[a]\nw = 1\n[b]\ny = 1\nx = 1\nz = 1", "[a]\nw = 1\n[b]\nz = 1\ny = 1\nx = 7",
                         renames=[("a.x", "b.x")])
        self.assert_jump("[a]\nw = 1\nx = 1\n[b]\ny = 1\nz = 1", "[a]\nx = 7\nw = 1\n[b]\nz = 1\ny = 1",
                         "[a]\nw = 1\n[b]\ny = 1\nx = 1\nz = 1", "[a]\nw = 1\n[b]\nz = 1\ny = 1\nx = 7",
                         renames=[("a.x", "b.x")])
        self.assert_jump("[a]\nx = 1\n[b]\nx = 1", "[a]\nx = 7\n[b]\nx = 8", "[a]\nx = 1\n[b]\nx = 1",
                         "[a]\nx = 8\n[b]\nx = 7", renames=[("a.x", "b.x"), ("b.x", "a.x")])

    def test_sections_whose_names_begin_alike(self):
        self.assert_jump("[a]\nx = 1\n[ab]\nx = 1", "[ab]\nx = 7\n[a]\nx = 8", "[a]\nx = 2\n[ab]\nx = 2",
                         "[a]\nx = 8\n[ab]\nx = 7")


class BlocksTest(LayoutTest):
    SHIPPED = joined("# top", "[a]", "# x", "x = 1", "# y", "y = 1", "# end")
    LATER = joined("# new top", "[a]", "# new x", "x = 2", "# new y", "y = 2", "# new end")

    def test_blocks_as_shipped_become_the_new_ones(self):
        self.assert_jump(self.SHIPPED, self.SHIPPED.replace("x = 1", "x = 7"), self.LATER, self.LATER.replace("x = 2", "x = 7"))

    def test_blocks_that_the_user_changed_stay(self):
        for old, new, mine in [("# top", "# new top", "# mine"), ("# x", "# new x", "# mine"),
                               ("# y", "# new y", "# mine\n\n# too"), ("# end", "# new end", "#")]:
            own = "\n".join(mine if line == old else line for line in self.SHIPPED.split("\n"))
            expected = "\n".join(mine if line == new else line for line in self.LATER.split("\n"))
            self.assert_jump(self.SHIPPED, own, self.LATER, expected)

    def test_blocks_that_the_user_deleted_stay_deleted(self):
        for old, new in [("# top", "# new top"), ("# x", "# new x"), ("# y", "# new y"), ("# end", "# new end")]:
            own = "\n".join(line for line in self.SHIPPED.split("\n") if line != old)
            expected = "\n".join(line for line in self.LATER.split("\n") if line != new)
            self.assert_jump(self.SHIPPED, own, self.LATER, expected)

    def test_all_changed(self):
        own = joined("", "[a]", "", "x = 1", "", "y = 1", "")
        self.assert_jump(self.SHIPPED, own, self.LATER, joined("", "[a]", "", "x = 2", "", "y = 2", ""))

    def test_a_block_that_the_user_made_like_the_new_one(self):
        own = self.SHIPPED.replace("# x", "# new x")
        self.assert_jump(self.SHIPPED, own, self.LATER, self.LATER)

    def test_kept_lines_do_not_count_in_blocks(self):
        history = History(Release("[a]\nx = 1\n# y\ny = 1"), Release("[a]\n# y\ny = 1"), Release("[a]\n# new y\ny = 1"))
        own = "[a]\n#~ 0 a.x = 3\n# y\ny = 1"
        before, after = State(1, [row("3", "own"), row("1")]), State(2, [row("3", "own"), row("1")])
        self.assertEqual(self.write(history, own, before, after), "[a]\n# new y\ny = 1\n#~ 0 a.x = 3")

    def test_blocks_go_along_with_renames(self):
        own = self.SHIPPED.replace("# x", "# mine")
        later = joined("[a]", "# new y", "y = 2", "[b]", "# new z", "z = 2")
        self.assert_jump(self.SHIPPED, own, later, joined("[a]", "# new y", "y = 2", "[b]", "# mine", "z = 2"),
                         renames=[("a.x", "b.z")])

    def test_a_setting_at_the_same_place_with_another_slot_has_the_new_block(self):
        own = self.SHIPPED.replace("# x", "# mine")
        later = joined("[a]", "# new x", "x = 2", "# new y", "y = 2")
        history = History(Release(self.SHIPPED), Release("[a]"), Release(later))
        before = edited(history, State.fresh(history), own)
        self.assertEqual(self.write(history, own, before, State.fresh(history, 2)), later)

    def test_a_deleted_line_that_comes_back_has_the_new_block(self):
        own = joined("# top", "[a]", "# mine", "y = 1", "# end")
        expected = joined("# new top", "[a]", "# new x", "x = 2", "# mine", "y = 2", "# new end")
        self.assert_jump(self.SHIPPED, own, self.LATER, expected, answer=False)

    def test_blocks_of_what_is_not_written_are_lost(self):
        own = joined("# mine", "[a]", "# mine", "x = 1", "y = 1", "# end")
        self.assert_jump(self.SHIPPED, own, "[b]\nz = 1", "[b]\nz = 1")

    def test_a_header_that_the_user_deleted_has_the_new_block(self):
        self.assert_jump("# a\n[a]\n# b\n[b]", "[b]", "# new a\n[a]\n# new b\n[b]", "# new a\n[a]\n[b]")

    def test_headers_by_their_names(self):
        self.assert_jump("# a\n[a]\n# b\n[b]", "# mine\n[b]\n# a\n[a]", "# new a\n[a]\n# new b\n[b]",
                         "# new a\n[a]\n# mine\n[b]")

    def test_tail_of_a_text_without_settings(self):
        self.assert_jump("# x", "# x", "# y", "# y")
        self.assert_jump("# x", "# mine", "# y", "# mine")
        self.assert_jump("# x", "", "# y", "")
        self.assert_jump("", "# mine", "[a]\nx = 1", "[a]\nx = 1\n# mine")

    def test_a_block_of_blank_lines(self):
        self.assert_jump("[a]\n\nx = 1", "[a]\n\n\nx = 1", "\n[a]\nx = 2\n", "\n[a]\n\n\nx = 2\n")


class KeptLinesTest(LayoutTest):
    HISTORY = History(
        Release("[a]\nw = 1\nx = 1\ny = 1\nz = 1"),
        Release("[a]\ny = 1\n[b]\nx = 1", renames=[("a.x", "b.x")]),
        Release("[a]\ny = 1\n# end"),
        Release("[a]\nw = 2\ny = 1\n# end", returns=[(0, "a.w", "a.w")]),
    )

    def test_in_the_order_of_their_slots(self):
        before = State.fresh(self.HISTORY)
        after = State(2, [row("7", "own", "1"), row(None, "own"), row("1"), row("9", "own")])
        found = self.write(self.HISTORY, self.HISTORY.shipped_text(0), before, after)
        self.assertEqual(found, "[a]\ny = 1\n# end\n#~ 3 a.w = 7\n#~ 1 b.x\n#~ 0 a.z = 9")

    def test_they_move_behind_the_tail(self):
        own = "#~ 0 a.z = 9\n[a]\n#~ 1 b.x\ny = 1\n#~ 3 a.w = 7\n# end"
        state = State(2, [row("7", "own", "1"), row(None, "own"), row("1"), row("9", "own")])
        found = self.write(self.HISTORY, own, state, state)
        self.assertEqual(found, "[a]\ny = 1\n# end\n#~ 3 a.w = 7\n#~ 1 b.x\n#~ 0 a.z = 9")

    def test_a_kept_line_becomes_a_setting(self):
        own = "[a]\ny = 1\n# end\n#~ 3 a.w = 7\n#~ 0 a.z"
        before = State(2, [row("7", "own", "1"), row(None), row("1"), row(None, "own")])
        after = State(3, [row("7", "own", "1", "2"), row(None), row("1"), row(None, "own")])
        found = self.write(self.HISTORY, own, before, after)
        self.assertEqual(found, "[a]\nw = 7\ny = 1\n# end\n#~ 0 a.z")

    def test_a_setting_becomes_a_kept_line(self):
        own = "[a]\nw = 7\nx = 8\n# mine\nz = 9"
        found = self.jump(self.HISTORY, own, 1)
        self.assertEqual(found, "[a]\n[b]\nx = 8\n#~ 3 a.w = 7\n#~ 0 a.z = 9")
        found = self.jump(self.HISTORY, own, 2)
        self.assertEqual(found, "[a]\n# end\n#~ 3 a.w = 7\n#~ 1 b.x = 8\n#~ 0 a.z = 9")

    def test_deleted_lines_become_kept_lines_without_a_value(self):
        found = self.jump(self.HISTORY, "[a]\ny = 1", 2)
        self.assertEqual(found, "[a]\ny = 1\n# end\n#~ 3 a.w\n#~ 1 b.x\n#~ 0 a.z")

    def test_held_slots_are_shown_as_settings(self):
        history = History(
            Release("[a]\nx = 1\ny = 1"), Release("[a]\nx = 1\ny = 2\nz = 2"),
            exclusions=[((0, "a.x", "3"), (0, "a.y", "2")), ((0, "a.x", "3"), (1, "a.z", "2"))])
        self.assertEqual(self.jump(history, "[a]\nx = 3\ny = 1", 1), "[a]\nx = 3\ny = 1")


class ExamplesTest(LayoutTest):
    def test_a_port(self):
        history = History(Release("[net]\nport = 80\nhost = any"), Release("[net]\nport = 81\nhost = any"))
        self.assertEqual(self.jump(history, "[net]\nport = 90\nhost = any", 1), "[net]\nport = 90\nhost = any")

    def test_texts_may_grow_long(self):
        remark = "\n".join(["# " + "x" * 98] * 48)
        history = History(Release("[a]\nx = 1"), Release("[a]\nx = 1\n%s\ny = 1" % remark))
        found = self.jump(history, "%s\n[a]\nx = 1" % remark, 1)
        self.assertEqual(found, "%s\n[a]\nx = 1\n%s\ny = 1" % (remark, remark))
        self.assertGreater(len(found), 5000)


if __name__ == "__main__":
    unittest.main()
