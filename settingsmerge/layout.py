"""The text that shows a state, written anew from the text before [9, 19, 20]."""

from settingsmerge.files import KEPT_MARK, SettingsFile, key_of, section_of


class Writer:
    """Writes the text for the state after, from the text for the state before."""

    def __init__(self, history, text, before, after):
        self.history = history
        self.before = before
        self.after = after
        self.own = SettingsFile(text)
        self.old = SettingsFile(history.shipped_text(before.release))
        self.new = SettingsFile(history.shipped_text(after.release))

    def wanted_slots(self, name):
        """The slots that have a value in this section, in the order of the new shipped text."""
        places = [place for place in self.new.places() if section_of(place) == name]
        found = [self.history.slot_at(place, self.after.release) for place in places]
        return [slot for slot in found if self.after.rows[slot][0] is not None]

    def former_slots(self, name):
        """The slots whose settings stand in a section of this name in the own text, in their order there."""
        places = [place for place in self.own.places() if section_of(place) == name]
        return [self.history.slot_at(place, self.before.release) for place in places]

    def ordered_slots(self, name):
        """The slots that have a value in this section, in the order in which they are written."""
        wanted = self.wanted_slots(name)
        order = [slot for slot in self.former_slots(name) if slot in wanted]
        for at, slot in enumerate(wanted):
            if slot not in order:
                # All wanted slots above have a place in the order by now, so the nearest one is the one before.
                order.insert(order.index(wanted[at - 1]) + 1 if at > 0 else 0, slot)
        return order

    def block_for(self, former, thing):
        """The block of a header or a setting, which the text before has as the former one (None if not at all)."""
        if former in self.own.sections() + self.own.places():
            block = self.own.block(former)
            if block != self.old.block(former):
                return block
        return self.new.block(thing)

    def setting_lines(self, slot):
        """The block and the line of a setting."""
        place = self.history.place_of(slot, self.after.release)
        former = self.history.place_of(slot, self.before.release)
        return self.block_for(former, place) + [f"{key_of(place)} = {self.after.rows[slot][0]}"]

    def section_lines(self, name):
        """The lines of a section, with the block of its header."""
        rows = self.block_for(name, name) + [f"[{name}]"]
        for slot in self.ordered_slots(name):
            rows.extend(self.setting_lines(slot))
        return rows

    def tail_lines(self):
        """The tail."""
        return self.own.tail() if self.own.tail() != self.old.tail() else self.new.tail()

    def kept_lines(self):
        """The kept lines, in the order of their slots."""
        rows = []
        for slot, (value, status, overruled) in enumerate(self.after.rows):
            if status == "own" and self.history.place_of(slot, self.after.release) is None:
                release, place = self.history.kept_place(slot)
                shown = "" if value is None else f" = {value}"
                rows.append(f"{KEPT_MARK} {release} {place}{shown}")
        return rows

    def whole_text(self):
        """All lines, joined."""
        rows = []
        for name in self.new.sections():
            rows.extend(self.section_lines(name))
        # A single blank line gives the empty string here, as it should.
        return "\n".join(rows + self.tail_lines() + self.kept_lines())


def written(history, text, before, after):
    """The text for the state after, from the text for the state before."""
    return Writer(history, text, before, after).whole_text()
