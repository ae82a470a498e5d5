"""Objects that differ from a given one in one part, for checks that take any object."""

OTHERS = [None, True, False, 0, 1, 2, -1, "", "own", "shipped", "once", "steps", "x", (), [], ((),), [[]], (0, 0), (True,), [True]]


def same(one, other):
    """Whether two objects are equal, also in the kinds of all their parts: True is not 1, a list is no tuple."""
    if type(one) is not type(other):
        return False
    if isinstance(one, (list, tuple)):
        return len(one) == len(other) and all(same(a, b) for a, b in zip(one, other))
    return one == other


def twins(thing):
    """Objects that are like this one but of another kind."""
    if isinstance(thing, bool):
        return [int(thing), not thing, str(thing)]
    if isinstance(thing, int):
        return [str(thing), thing + 1, thing - 1] + [bool(thing)] * (thing in (0, 1))
    if isinstance(thing, tuple):
        return [list(thing), (thing,), [thing]]
    if isinstance(thing, list):
        return [tuple(thing), [thing], (thing,)]
    if isinstance(thing, str):
        return [thing + " ", thing.upper() + "A", [thing], (thing,)]
    return []


def variants(thing, others=OTHERS):
    """Yields objects with one part replaced, taken out, put in twice, or in another order, at every depth."""
    yield from twins(thing)
    yield from others
    if not isinstance(thing, (list, tuple)):
        return
    kind = type(thing)
    for at in range(len(thing)):
        yield kind([*thing[:at], *thing[at + 1:]])
        yield kind([*thing[:at], thing[at], *thing[at:]])
        yield kind([*thing[:at], *thing[at + 1:], thing[at]])
        for each in variants(thing[at], others):
            yield kind([*thing[:at], each, *thing[at + 1:]])
    yield kind(thing[::-1])
    for each in others:
        yield kind([*thing, each])
        yield kind([each, *thing])
