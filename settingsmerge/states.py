"""The states of an installation, and what an edit makes of them [8, 9, 10, 18]."""

from settingsmerge.errors import BadEdit, Excluded, NoRule
from settingsmerge.files import KEPT_MARK, SettingsFile, is_header, is_loose, read_kept, read_setting

WORDS = ("own", "shipped")


def joined(overruled, value):
    """The ascending tuple of the overruled values and this one, unless it is None."""
    return tuple(sorted(set([*overruled, value]))) if value is not None else overruled


class State:
    """A release, a row (value, status, overruled) for each slot, and the rules of the user."""

    def __init__(self, release, rows, *, rules=()):
        self.release = release
        self.rows = tuple(rows)
        self.rules = tuple(sorted(rules))

    @staticmethod
    def fresh(history, release=0):
        """The state of a release in which all slots follow."""
        history.check_release(release)
        rows = [(history.shipped_value(slot, release), "follows", ()) for slot in range(history.slots)]
        return State(release, rows)

    def settings(self):
        """The list of the values of all slots."""
        return [value for value, status, overruled in self.rows]

    def ruled(self, word, scope):
        """The state with this rule instead of the one that the scope had; None as the word is no rule."""
        if word is not None and word not in WORDS:
            raise NoRule(word)
        others = [rule for rule in self.rules if rule[0] != scope]
        rules = others if word is None else others + [(scope, word)]
        return State(self.release, self.rows, rules=rules)

    def __eq__(self, other):
        return (isinstance(other, State) and self.release == other.release and self.rows == other.rows
                and self.rules == other.rules)

    def __repr__(self):
        statuses = [status for value, status, overruled in self.rows]
        return f"State({self.release}, {statuses.count('own')} own, {statuses.count('held')} held)"


def kept_slots(history, release):
    """A dict from the tuples (release, place) that a kept line may name to the slots, which the release lacks."""
    lacking = [slot for slot in range(history.slots) if history.place_of(slot, release) is None]
    return {history.kept_place(slot): slot for slot in lacking}


def check_lines(history, release, file):
    """Raises BadEdit with the first line that the release does not allow."""
    sections = SettingsFile(history.shipped_text(release)).sections()
    kept = kept_slots(history, release)
    section = ""
    for at, line in enumerate(file.lines):
        if is_header(line):
            section = line[1:-1]
            if section not in sections:
                raise BadEdit(at, "section")
        elif line.startswith(KEPT_MARK):
            named, place, value = read_kept(line)
            if (named, place) not in kept:
                raise BadEdit(at, "kept")
        elif not is_loose(line):
            key, value = read_setting(line)
            if history.slot_at(f"{section}.{key}", release) is None:
                raise BadEdit(at, "place")


def shown_values(history, release, file):
    """A dict from the slots that have a line in a file to the values there, perhaps None in a kept line."""
    kept = kept_slots(history, release)
    shown = {kept[(named, place)]: value for named, place, value in file.kept()}
    for place in file.places():
        shown[history.slot_at(place, release)] = file.value(place)
    return shown


def edited_row(history, state, slot, shown):
    """The row of a slot after an edit, from the values that the new text shows."""
    value, status, overruled = state.rows[slot]
    shipped = history.shipped_value(slot, state.release)
    new = shown.get(slot)
    # The slots that the release does not have are those for which it ships nothing.
    was_kept = shipped is None and status == "own"
    is_kept = shipped is None and slot in shown
    if new == value and is_kept == was_kept:
        return state.rows[slot]
    if new == shipped and not is_kept:
        return (shipped, "follows", ())
    before = overruled if status == "own" else ()
    return (new, "own", tuple([each for each in joined(before, shipped) if each != new]))


def check_exclusions(history, values):
    """Raises Excluded with the least pair of slots whose values exclude each other."""
    for slot, value in enumerate(values):
        for other in range(slot + 1, len(values)):
            if history.excluded(slot, value, other, values[other]):
                raise Excluded(slot, other)


def edited(history, state, text):
    """The state after an edit that passes this text."""
    file = SettingsFile(text)
    check_lines(history, state.release, file)
    shown = shown_values(history, state.release, file)
    rows = [edited_row(history, state, slot, shown) for slot in range(history.slots)]
    check_exclusions(history, [row[0] for row in rows])
    return State(state.release, rows, rules=state.rules)
