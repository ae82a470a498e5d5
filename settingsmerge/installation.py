"""An installation of a program: its text, its state, and the deeds that led to them [3, 8 to 20]."""

from settingsmerge.errors import NoDeed, NoPlace, NotOwn, Unanswered
from settingsmerge.layout import written
from settingsmerge.merging import Merge
from settingsmerge.states import State, check_exclusions, edited


def copied(state):
    """A new state that equals this one."""
    return State(state.release, state.rows, rules=state.rules)


def with_row(state, slot, row):
    """The state in which the slot has this row."""
    rows = list(state.rows)
    rows[slot] = row
    return State(state.release, rows, rules=state.rules)


def next_answer(merge, answers):
    """The answer to the question of a merge: the next one of a list or tuple, or what a function returns."""
    if not isinstance(answers, (list, tuple)):
        return answers(merge.question)
    used = len(merge.answers)
    if used == len(answers):
        raise Unanswered(merge.question.claim)
    return answers[used]


class Step:
    """A deed, the text and the state before it, and the tuples (slot, reason) of the rows that it changed."""

    def __init__(self, deed, text, state, changes):
        self.deed = deed
        self.text = text
        # Copied here and when it comes back, since whoever holds the state of an installation can change it.
        self.state = copied(state)
        self.changes = changes


class Installation:
    """A text of settings and its state, which the deeds of the user lead on."""

    def __init__(self, history, release=0):
        self.state = State.fresh(history, release)
        self.text = history.shipped_text(release)
        self.history = history
        # A tuple, which is replaced and never changed: so an attempt can go back to the one it began with.
        self.steps = ()

    def take_step(self, deed, text, state, reasons):
        """Does a deed that leads to this text and state; reasons are the (slot, reason) of all rows it may change."""
        rows = self.state.rows
        changes = [(slot, reason) for slot, reason in reasons if rows[slot] != state.rows[slot]]
        self.steps = self.steps + (Step(deed, self.text, self.state, changes),)
        self.text = text
        self.state = state

    def slot_here(self, place):
        """The slot of a place of the present release."""
        slot = self.history.slot_at(place, self.state.release)
        if slot is None:
            raise NoPlace(place)
        return slot

    def text_for(self, state):
        """The text for a state, written anew from the present one."""
        return written(self.history, self.text, self.state, state)

    def edit(self, text):
        """Passes a new text."""
        state = edited(self.history, self.state, text)
        self.take_step(("edit", text), text, state, [(slot, ("edit",)) for slot in range(self.history.slots)])

    def put(self, place, value):
        """Gives the setting at this place a value, or None; all others keep theirs."""
        slot = self.slot_here(place)
        if self.state.rows[slot][0] == value:
            self.edit(self.text)
        else:
            # Only the value of this row shows in the text; the edit finds out the row itself.
            self.edit(self.text_for(with_row(self.state, slot, (value, "own", ()))))

    def follow(self, slot):
        """Gives up the change of the user for this slot."""
        self.history.check_slot(slot)
        if self.state.rows[slot][1] != "own":
            raise NotOwn(slot)
        shipped = self.history.shipped_value(slot, self.state.release)
        state = with_row(self.state, slot, (shipped, "follows", ()))
        check_exclusions(self.history, state.settings())
        self.take_step(("follow", slot), self.text_for(state), state, [(slot, ("follow",))])

    def rule(self, word, *, place=None, section=None):
        """Makes a rule for this place, otherwise for this section, otherwise for all; None as the word removes it."""
        if place is not None:
            self.make_rule(word, ("setting", self.slot_here(place)))
        elif section is not None:
            self.make_rule(word, ("section", section))
        else:
            self.make_rule(word, ("all", ""))

    def make_rule(self, word, scope):
        """Makes the rule of this scope, or removes it."""
        self.take_step(("rule", word, scope), self.text, self.state.ruled(word, scope), [])

    def jump(self, to, *, answers=()):
        """Goes to a release and returns the report; answers is a list, a tuple, or a function of each question."""
        merge = Merge(self.history, self.state, to)
        while merge.question is not None:
            merge.reply(next_answer(merge, answers))
        state = merge.result()
        report = merge.report()
        self.take_step(("jump", to, merge.answers), self.text_for(state), state, report)
        return report

    def undo(self):
        """Takes back the last deed."""
        if len(self.steps) == 0:
            raise NoDeed()
        last = self.steps[-1]
        self.steps = self.steps[:-1]
        self.text = last.text
        self.state = copied(last.state)

    def journal(self):
        """The list of the deeds."""
        return [step.deed for step in self.steps]

    def repeat(self, deed):
        """Does a deed as a journal tells it."""
        word = deed[0]
        if word == "edit":
            self.edit(deed[1])
        elif word == "follow":
            self.follow(deed[1])
        elif word == "rule":
            self.make_rule(deed[1], deed[2])
        else:
            self.jump(deed[1], answers=deed[2])

    @classmethod
    def replayed(cls, history, journal, *, release=0):
        """An installation that did the deeds of this journal."""
        box = cls(history, release)
        for deed in journal:
            box.repeat(deed)
        return box

    def trace(self, slot):
        """The list of tuples (number of a deed, reason) of the deeds that changed the row of this slot."""
        self.history.check_slot(slot)
        return [
            (number, reason) for number, step in enumerate(self.steps)
            for changed, reason in step.changes if changed == slot
        ]

    def attempt(self, function):
        """Calls the function with the installation; if it raises an error, all that it did is taken back."""
        text, state, steps = self.text, copied(self.state), self.steps
        finished = None
        try:
            result = function(self)
            finished = True
        finally:
            if finished is None:
                self.text, self.state, self.steps = text, state, steps
        return result

    def __len__(self):
        return len(self.steps)

    def __eq__(self, other):
        return isinstance(other, Installation) and self.state == other.state and self.text == other.text
