"""The ends of walks through releases, and where walks part from going at once [21 to 23]."""

from settingsmerge.errors import HasExclusions, TooMany
from settingsmerge.merging import Merge
from settingsmerge.states import State

MOST_ENDS = 64


def check_many(many):
    """Raises TooMany if there are more ends than the limit."""
    if many > MOST_ENDS:
        raise TooMany(MOST_ENDS)


def check_walk(history, walk):
    """Raises NoRelease with the first object of the walk that is no release."""
    for release in walk:
        history.check_release(release)


def ends_of_jump(history, state, to):
    """The list of the tuples (answers, rows) to which one jump can lead, in the order of ends."""
    found = []
    pending = [()]
    while pending != []:
        # Each list of answers that is pending leads to one end at least.
        check_many(len(found) + len(pending))
        given = pending.pop()
        merge = Merge(history, state, to)
        for stands in given:
            merge.reply(stands)
        while merge.question is not None:
            # The last one that is put off is taken up first: it differs from this end in the latest answer.
            pending.append(merge.answers + (False,))
            merge.reply(True)
        found.append((merge.answers, merge.result().rows))
    return found


class Walker:
    """Goes walks from one state, and remembers the jumps that it made."""

    def __init__(self, history, state):
        self.history = history
        self.state = state
        # From tuples (rows, to) to what `ends_of_jump` returns: different answers often lead to the same rows.
        self.known = {}

    def jumps(self, rows, to):
        """The list of the tuples (answers, rows) to which a jump from these rows can lead."""
        if (rows, to) not in self.known:
            # Whence a jump comes does not matter beside the rows and the rules.
            state = State(self.state.release, rows, rules=self.state.rules)
            self.known[(rows, to)] = ends_of_jump(self.history, state, to)
        return self.known[(rows, to)]

    def walked(self, walk):
        """The list of the tuples (answers, rows) of the ends of a walk, in the order of ends."""
        found = [((), self.state.rows)]
        for to in walk:
            longer = []
            for answers, rows in found:
                longer = longer + [(answers + (more,), after) for more, after in self.jumps(rows, to)]
                check_many(len(longer))
            found = longer
        return found


def papers_of(side, ends_here, ends_there):
    """The list of the parting papers of one side, in the order of ends."""
    there = [rows for answers, rows in ends_there]
    return [(side, answers) for answers, rows in ends_here if rows not in there]


def papers_between(once, steps):
    """The list of all parting papers: those of going at once, then those of the steps, both in the order of ends."""
    return papers_of("once", once, steps) + papers_of("steps", steps, once)


def parting_papers(history, state, walk):
    """The list of all parting papers of a walk, as `papers_between` gives it."""
    check_walk(history, walk)
    walker = Walker(history, state)
    steps = walker.walked(walk)
    return papers_between(walker.walked(walk[-1:]), steps)


def ends(history, state, walk):
    """Yields the ends (answers, state) of a walk, in their order."""
    check_walk(history, walk)
    release = walk[-1] if len(walk) > 0 else state.release
    # Ends that are asked for later are those of the same state, whatever its holder did to it meanwhile.
    rules = state.rules
    for answers, rows in Walker(history, state).walked(walk):
        yield (answers, State(release, rows, rules=rules))


def parting(history, state, walk):
    """The least parting paper of a walk, None if the walk does not part."""
    papers = parting_papers(history, state, walk)
    if papers == []:
        return None
    counts = [sum([len(each) for each in answers]) for side, answers in papers]
    # The papers stand in the order that decides among those with the fewest answers.
    return papers[counts.index(min(counts))]


def straight_walks(start, to):
    """The list of the straight walks with a release between, shorter ones first, those of equal length ascending."""
    between = list(range(to - 1, start, -1)) if start < to else list(range(to + 1, start))
    walks = [(to,)]
    for release in between:
        walks = walks + [(release,) + walk for walk in walks]
    return [walk for many, walk in sorted([(len(walk), walk) for walk in walks]) if many > 1]


def parting_walk(history, state, to):
    """The first straight walk to this release that parts from the state, None if there is none."""
    history.check_release(to)
    walker = Walker(history, state)
    once = walker.walked((to,))
    for walk in straight_walks(state.release, to):
        if papers_between(once, walker.walked(walk)) != []:
            return walk
    return None


def is_parting_slot(history, slot, release, walk):
    """Whether the slot has on the way a shipped value that it has neither at the beginning nor at the end."""
    outer = [None, history.shipped_value(slot, release)] + [history.shipped_value(slot, last) for last in walk[-1:]]
    return any([history.shipped_value(slot, between) not in outer for between in walk[:-1]])


def parting_slot(history, release, walk):
    """The least slot by which some state of the release parts from the walk, None if there is none."""
    if history.has_exclusions:
        raise HasExclusions()
    history.check_release(release)
    check_walk(history, walk)
    for slot in range(history.slots):
        if is_parting_slot(history, slot, release, walk):
            return slot
    return None
