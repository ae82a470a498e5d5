"""The chains of slots in which each one needs the next one [12]."""


def distances(needs, end):
    """A dict from each slot from which a chain leads to the end, to the number of steps on the shortest one."""
    found = {end: 0}
    steps = 0
    latest = [end]
    while latest != []:
        steps += 1
        latest = [slot for slot, other in needs if other in latest and slot not in found]
        for slot in latest:
            found[slot] = steps
    return found


def least_chain(needs, start, steps):
    """The least of the shortest chains from the start; steps is a dict as `distances` gives it."""
    chain = [start]
    while steps[chain[-1]] > 0:
        # The first slot in which two chains differ decides, so the least next one always is the right one.
        nearer = steps[chain[-1]] - 1
        chain.append(min([other for slot, other in needs if slot == chain[-1] and steps.get(other) == nearer]))
    return tuple(chain)


def all_chains(slots, needs):
    """A dict from the tuples (slot, other) between which there are chains to the shortest and least ones."""
    chains = {}
    for end in slots:
        steps = distances(needs, end)
        for start in steps:
            chains[(start, end)] = least_chain(needs, start, steps)
    return chains
