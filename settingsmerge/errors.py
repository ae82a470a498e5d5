"""The errors of the package, each with the fields that it is created with."""


class BadText(ValueError):
    """A text is no file: the first line that fails, and its kind."""

    def __init__(self, line, kind):
        self.line = line
        self.kind = kind


class BadEdit(ValueError):
    """An edit passes a file that its release does not allow: the first such line, and its kind."""

    def __init__(self, line, kind):
        self.line = line
        self.kind = kind


class NoHistory(ValueError):
    """Releases and exclusions make no history: the number of the one that fails, and its kind."""

    def __init__(self, at, kind):
        self.at = at
        self.kind = kind


class BadAnswer(ValueError):
    """An answer is no boolean."""

    def __init__(self, answer):
        self.answer = answer


class BadCommand(ValueError):
    """A command is none that the console knows."""

    def __init__(self, command):
        self.command = command


class NoPlace(LookupError):
    """An object is no place (or, for a block, no header) that is there."""

    def __init__(self, place):
        self.place = place


class NoSlot(LookupError):
    """An object is no slot of the history."""

    def __init__(self, slot):
        self.slot = slot


class NoChain(LookupError):
    """No chain leads from the slot to the other one."""

    def __init__(self, slot, other):
        self.slot = slot
        self.other = other


class NoRelease(IndexError):
    """An object is no release of the history."""

    def __init__(self, release):
        self.release = release


class Unanswered(RuntimeError):
    """A question is left: the claim that it asks of."""

    def __init__(self, claim):
        self.claim = claim


class Settled(RuntimeError):
    """An answer is given although no conflict is left."""


class NotOwn(RuntimeError):
    """A slot that should be own is not."""

    def __init__(self, slot):
        self.slot = slot


class HasExclusions(RuntimeError):
    """A history that should have no exclusions has some."""


class NoDeed(RuntimeError):
    """There is no deed to take back."""


class Excluded(ArithmeticError):
    """The values of two slots exclude each other."""

    def __init__(self, slot, other):
        self.slot = slot
        self.other = other


class TooMany(OverflowError):
    """A walk has more ends than the limit."""

    def __init__(self, limit):
        self.limit = limit


class NoRule(TypeError):
    """A word is none that a rule can have."""

    def __init__(self, word):
        self.word = word
