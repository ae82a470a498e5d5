"""A second reading of DOC.md [19, 21 to 23] and of installations, slow and plain, to hold the package against."""

import itertools

import model


def text_with(past, state, text, slot, value):
    """The text that [19] writes for the state in which the slot has this value."""
    rows = [(value, "own", ()) if each == slot else row for each, row in enumerate(state[1])]
    return model.written(past, text, state, (state[0], tuple(rows), state[2]))


def followed(past, state, slot):
    """The state in which the slot follows."""
    rows = list(state[1])
    rows[slot] = (past.shipped(slot, state[0]), "follows", ())
    return (state[0], tuple(rows), state[2])


def clash_in(past, rows):
    """The least pair of slots whose values exclude each other, None without any."""
    for slot, other in itertools.combinations(range(len(rows)), 2):
        if past.clash(slot, rows[slot][0], other, rows[other][0]):
            return (slot, other)
    return None


class Box:
    """An installation that knows nothing but its deeds: all else is found by doing all of them again."""

    def __init__(self, past, release):
        self.past, self.release, self.deeds = past, release, []

    def told(self):
        """For each number of deeds the tuple (state, text, report of the last deed or None)."""
        state, text = model.fresh(self.past, self.release), self.past.releases[self.release][0]
        found = [(state, text, None)]
        for deed in self.deeds:
            found.append(self.after(found[-1][0], found[-1][1], deed))
        return found

    def after(self, state, text, deed):
        if deed[0] == "edit":
            return model.edit(self.past, state, deed[1]), deed[1], None
        if deed[0] == "follow":
            made = followed(self.past, state, deed[1])
            return made, model.written(self.past, text, state, made), None
        if deed[0] == "rule":
            rules = {scope: word for scope, word in state[2] if scope != deed[2]}
            if deed[1] is not None:
                rules[deed[2]] = deed[1]
            return (state[0], state[1], tuple(sorted(rules.items()))), text, None
        answers = list(deed[2])
        jump = model.Jump(self.past, state, deed[1], lambda claim: answers.pop(0))
        assert answers == []
        return jump.result(), model.written(self.past, text, state, jump.result()), jump.report()

    def now(self):
        return self.told()[-1]

    def trace(self, slot):
        found, told = [], self.told()
        for number, deed in enumerate(self.deeds):
            before, (after, text, report) = told[number][0], told[number + 1]
            if before[1][slot] != after[1][slot]:
                found.append((number, dict(report)[slot] if deed[0] == "jump" else (deed[0],)))
        return found


def jump_ends(past, state, to, given=()):
    """Yields the tuples (answers, state) of one jump, those that begin with the given answers."""
    left = list(given)

    def answer(claim):
        if not left:
            raise EOFError
        return left.pop(0)

    try:
        jump = model.Jump(past, state, to, answer)
    except EOFError:
        yield from jump_ends(past, state, to, given + (True,))
        yield from jump_ends(past, state, to, given + (False,))
    else:
        yield given, jump.result()


def all_ends(past, state, walk):
    """Yields the ends of a walk, however many there are."""
    if not walk:
        yield (), state
        return
    for answers, after in jump_ends(past, state, walk[0]):
        for more, last in all_ends(past, after, walk[1:]):
            yield (answers,) + more, last


def ends(past, state, walk):
    """The list of the ends of a walk, None if there are more than 64."""
    found = list(itertools.islice(all_ends(past, state, walk), 65))
    return found if len(found) <= 64 else None


def papers(past, state, walk):
    """The list of all parting papers, the least one first, None if a side has too many ends."""
    sides = {"once": ends(past, state, walk[-1:]), "steps": ends(past, state, walk)}
    if None in sides.values():
        return None
    found = []
    for side, other in [("once", "steps"), ("steps", "once")]:
        for answers, after in sides[side]:
            if all(after != elsewhere for more, elsewhere in sides[other]):
                order = [not stands for each in answers for stands in each]
                found.append((len(order), side, order, (side, answers)))
    return [each[-1] for each in sorted(found)]


def straight_walks(start, to):
    """The straight walks with a release between, in their order, found among all walks there are."""
    found = []
    for many in range(2, 9):
        for walk in itertools.product(range(8), repeat=many) if many < 4 else subsets(start, to, many):
            steps = (start,) + tuple(walk)
            up = all(a < b for a, b in zip(steps, steps[1:]))
            down = all(a > b for a, b in zip(steps, steps[1:]))
            if walk[-1] == to and (up or down):
                found.append(tuple(walk))
    return found


def subsets(start, to, many):
    """Ascending tuples of so many releases, each rising or falling."""
    rising = list(itertools.combinations(range(8), many))
    return sorted(rising + [walk[::-1] for walk in rising])


def parting_slot(past, release, walk):
    """The least slot with a value on the way that it has neither in the first release nor in the last one."""
    for slot in range(len(past.origins)):
        for between in walk[:-1]:
            value = past.shipped(slot, between)
            if value is not None and value != past.shipped(slot, release) and value != past.shipped(slot, walk[-1]):
                return slot
    return None
