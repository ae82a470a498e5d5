"""A console: an installation that is told what to do in words."""

from settingsmerge.errors import BadCommand
from settingsmerge.files import SettingsFile, is_name, is_place, is_release_word, is_value
from settingsmerge.installation import Installation
from settingsmerge.merging import Merge

# For each command the kinds of the words behind it. Any number of answers may follow those of `go`.
FORMS = {
    "put": ("place", "value"),
    "drop": ("place",),
    "follow": ("place",),
    "own": ("scope",),
    "shipped": ("scope",),
    "forget": ("scope",),
    "undo": (),
    "go": ("release",),
    "ask": ("release",),
    "value": ("place",),
    "lines": (),
}
ANSWERS = {"stands": True, "falls": False}
ALL = "-"


def fits(word, kind):
    """Whether a word is of this kind."""
    if kind == "place":
        return is_place(word)
    if kind == "value":
        return is_value(word)
    if kind == "release":
        return is_release_word(word)
    return word == ALL or is_name(word) or is_place(word)


def are_command(words):
    """Whether a list of words is a command."""
    if words[0] not in FORMS:
        return False
    kinds = FORMS[words[0]]
    told = words[1:]
    if words[0] == "go":
        told = words[1:2]
        if not all([word in ANSWERS for word in words[2:]]):
            return False
    return len(told) == len(kinds) and all([fits(word, kind) for word, kind in zip(told, kinds)])


def words_of(command):
    """The list of the words of a command; raises BadCommand for any object that is none."""
    # An empty word, as two spaces make it, is of no kind, so such a command is refused as well.
    words = command.split(" ") if isinstance(command, str) else [""]
    if not are_command(words):
        raise BadCommand(command)
    return words


def put_value(box, words):
    """Answers `put PLACE VALUE`."""
    box.put(words[1], words[2])
    return "ok"


def drop_value(box, words):
    """Answers `drop PLACE`."""
    box.put(words[1], None)
    return "ok"


def follow_place(box, words):
    """Answers `follow PLACE`."""
    box.follow(box.slot_here(words[1]))
    return "ok"


def set_rule(box, words):
    """Answers `own SCOPE`, `shipped SCOPE` and `forget SCOPE`."""
    word = None if words[0] == "forget" else words[0]
    if words[1] == ALL:
        box.rule(word)
    elif is_place(words[1]):
        box.rule(word, place=words[1])
    else:
        box.rule(word, section=words[1])
    return "ok"


def undo_deed(box, words):
    """Answers `undo`."""
    box.undo()
    return "ok"


def shown_place(box, slot):
    """The place by which the console names a slot."""
    return box.history.kept_place(slot)[1]


def go_to(box, words):
    """Answers `go RELEASE ANSWER ..`."""
    report = box.jump(int(words[1]), answers=[ANSWERS[word] for word in words[2:]])
    if report == []:
        return "none"
    return "; ".join([f"{shown_place(box, slot)} {reason[0]}" for slot, reason in report])


def ask_for(box, words):
    """Answers `ask RELEASE`."""
    merge = Merge(box.history, box.state, int(words[1]))
    if merge.question is None:
        return str(merge.fewest)
    slot, side = merge.question.claim
    return f"{merge.fewest} {shown_place(box, slot)} {side}"


def show_value(box, words):
    """Answers `value PLACE`."""
    value, status, overruled = box.state.rows[box.slot_here(words[1])]
    shown = "-" if value is None else value
    return f"{shown} {status}"


def count_lines(box, words):
    """Answers `lines`."""
    return str(len(SettingsFile(box.text).lines))


ACTIONS = {
    "put": put_value,
    "drop": drop_value,
    "follow": follow_place,
    "own": set_rule,
    "shipped": set_rule,
    "forget": set_rule,
    "undo": undo_deed,
    "go": go_to,
    "ask": ask_for,
    "value": show_value,
    "lines": count_lines,
}


class Console:
    """An installation that commands act on."""

    def __init__(self, history, release=0):
        self.installation = Installation(history, release)

    def say(self, command):
        """Carries out a command and returns its answer."""
        words = words_of(command)
        action = ACTIONS[words[0]]
        return action(self.installation, words)
