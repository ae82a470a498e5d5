"""Covers and matchings of conflicts [13]."""


def claims_of(conflicts):
    """The ascending list of the claims that these conflicts are conflicts of."""
    own = [(x, "own") for x, y in conflicts]
    shipped = [(y, "shipped") for x, y in conflicts]
    return sorted(set(own + shipped))


def without(conflicts, claim):
    """The list of those conflicts that are no conflicts of this claim."""
    return [(x, y) for x, y in conflicts if (x, "own") != claim and (y, "shipped") != claim]


def rivals_of(conflicts):
    """A dict from each x, in ascending order, to the ascending list of the y it has a conflict with."""
    rivals = {}
    for x, y in sorted(set(conflicts)):
        if x not in rivals:
            rivals[x] = []
        rivals[x].append(y)
    return rivals


class Matcher:
    """Matches as many x as it can, each with a rival y of its own."""

    def __init__(self, conflicts):
        self.rivals = rivals_of(conflicts)
        self.matched = {}
        self.tried = {}
        for x in list(self.rivals):
            self.tried = {}
            self.finds_rival(x)

    def finds_rival(self, x):
        """Matches x, if need be by matching others anew; returns whether it can."""
        for y in list(self.rivals[x]):
            if y not in self.tried:
                self.tried[y] = True
                if y not in self.matched or self.finds_rival(self.matched[y]):
                    self.matched[y] = x
                    return True
        return False


def matching(conflicts):
    """A matching with the most conflicts."""
    matched = Matcher(conflicts).matched
    return tuple(sorted([(matched[y], y) for y in matched]))


def least_cover(conflicts):
    """The cover with the fewest claims, and of these the least tuple."""
    cover = []
    left = list(conflicts)
    needed = len(matching(left))
    for claim in claims_of(conflicts):
        # The least cover has as many claims as the largest matching has conflicts. So a cover of the fewest claims
        # contains this one exactly if the others have a smaller matching. Taking each such claim in ascending order
        # gives the least tuple: one that is passed over is in no cover of the fewest later on either.
        others = without(left, claim)
        if len(matching(others)) < needed:
            cover.append(claim)
            left = others
            needed -= 1
    return tuple(cover)


def is_selection(thing, choices):
    """Whether any object is an ascending tuple of some of these choices, an ascending list of tuples."""
    if not isinstance(thing, tuple) or thing != tuple([choice for choice in choices if choice in thing]):
        return False
    # True equals 1 in Python, but it is no integer here.
    return not any([isinstance(item, bool) for part in thing for item in part])


def is_cover(conflicts, thing):
    """Whether any object is a cover of the conflicts, of any size."""
    if not is_selection(thing, claims_of(conflicts)):
        return False
    return all([(x, "own") in thing or (y, "shipped") in thing for x, y in conflicts])


def is_matching(conflicts, thing):
    """Whether any object is a matching of the conflicts, of any size."""
    if not is_selection(thing, sorted(set(conflicts))):
        return False
    return len({x for x, y in thing}) == len(thing) and len({y for x, y in thing}) == len(thing)
