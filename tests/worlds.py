"""Histories, edits and jumps that a seed decides, for tests against the model."""

import itertools
import random

import model
from settingsmerge.history import History, Release
from settingsmerge.states import State

SECTIONS = ["net", "log", "ui"]
KEYS = ["a", "b", "c", "d"]
VALUES = ["1", "2", "3", "4"]
LOOSE = ["", "# one", "# two", "#", ""]


def loose(rng):
    return [rng.choice(LOOSE) for _ in range(rng.choice([0, 0, 0, 1, 1, 2]))]


def text_of(rng, places, values=VALUES):
    """A text without kept lines with these places, each section's settings together."""
    lines = []
    used = {place.split(".")[0] for place in places} | set(SECTIONS[:rng.randint(1, 3)])
    names = rng.sample(sorted(used), len(used))
    for name in names:
        lines += loose(rng) + ["[" + name + "]"]
        for place in places:
            if place.startswith(name + "."):
                lines += loose(rng) + [place.split(".")[1] + " = " + rng.choice(values)]
    return "\n".join(lines + loose(rng))


def renames_between(rng, before, here):
    old = rng.sample(before, rng.randint(0, min(2, len(before), len(here))))
    return list(zip(old, rng.sample(here, len(old))))


def returns_to(rng, done, text, renames):
    """Some returns that are right: for places that have a new slot, of slots that the release before lacks."""
    past = model.Past(done + [(text, renames, [])])
    at = len(done)
    present = {past.slot(place, at - 1) for place in past.files[at - 1]["settings"]} if at else set()
    returns, used = [], set()
    for place in past.files[at]["settings"]:
        ways = [(named, old, place) for named in range(at) for old in past.files[named]["settings"]
                if past.slot(old, named) not in present | used]
        if past.origin(at, place) == (at, place) and ways and rng.random() < 0.6:
            returns.append(rng.choice(ways))
            used.add(past.slot(returns[-1][1], returns[-1][0]))
    return returns


def releases_of(rng, most_slots):
    """A list of tuples (text, renames, returns) that make a history of at most so many slots."""
    places = [section + "." + key for section in SECTIONS[:2] for key in KEYS[:3]]
    done = []
    for at in range(rng.randint(1, 5)):
        here = rng.sample(places, rng.randint(0 if rng.random() < 0.1 else 1, 4))
        text = text_of(rng, here)
        before = list(model.parts(done[-1][0])["settings"]) if done else []
        renames = renames_between(rng, before, list(model.parts(text)["settings"])) if done else []
        returns = returns_to(rng, done, text, renames)
        if len(model.Past(done + [(text, renames, returns)]).origins) > most_slots:
            break
        done.append((text, renames, returns))
    return done


def crowded_releases(rng):
    """Releases that all have about the same places, each mostly with a value of its own."""
    places = [section + "." + key for section in SECTIONS[:2] for key in KEYS[:3]]
    done = []
    for at in range(rng.randint(2, 4)):
        done.append((text_of(rng, rng.sample(places, rng.choice([5, 6, 6])), [VALUES[at], VALUES[at], VALUES[0]]), [], []))
    return done


def all_exclusions(releases):
    """All exclusions that no shipped text breaks, each once."""
    past = model.Past(releases)
    sides = [(at, place, value) for at, place in past.origins for value in VALUES]
    found = []
    for first, second in itertools.combinations(sides, 2):
        slots = [past.origins.index(side[:2]) for side in (first, second)]
        shipped = any(past.shipped(slots[0], at) == first[2] and past.shipped(slots[1], at) == second[2]
                      for at in range(len(releases)))
        if slots[0] != slots[1] and not shipped:
            found.append((first, second))
    return found


def exclusions_of(rng, releases, percent):
    """So many of a hundred exclusions that no shipped text breaks, told in any way."""
    past = model.Past(releases)
    chosen = []
    for sides in all_exclusions(releases):
        if rng.random() * 100 < percent:
            told = []
            for at, place, value in sides:
                slot = past.slot(place, at)
                at = rng.choice([each for each in range(len(releases)) if past.place(slot, each)])
                told.append((at, past.place(slot, at), value))
            chosen.append(tuple(rng.sample(told, 2)))
    return chosen + chosen[:rng.choice([0, 1])]


def changed_lines(rng, past, state, text):
    """The lines of an edit: some are dropped, changed, moved or new, in the sections where they are allowed."""
    release = state[0]
    here = past.files[release]
    lines = []
    calm = rng.choice([1, 1, 3])
    for line in text.split("\n") if text else []:
        luck = rng.random() * calm
        if model.SETTING.fullmatch(line) and luck < 0.35:
            line = None if luck < 0.15 else line.split(" ")[0] + " = " + rng.choice(VALUES)
        elif line.startswith("#~") and luck < 0.3:
            line = None if luck < 0.15 else " ".join(line.split(" ")[:3]) + rng.choice(["", " = 1", " = 2"])
        elif line[:1] in ("", "#") and not line.startswith("#~") and luck < 0.1:
            line = None
        lines += [line] if line is not None else []
        if rng.random() < 0.05:
            lines.append(rng.choice(LOOSE))
    kept_now = {line.split(" = ")[0] for line in lines if line.startswith("#~")}
    for slot in range(len(past.origins)):
        if past.place(slot, release) is None and rng.random() < 0.25:
            line = "#~ %d %s" % past.kept(slot)
            if line not in kept_now:
                lines.insert(rng.randint(0, len(lines)), line + rng.choice(["", " = 1", " = 2", " = 3"]))
    for place in here["settings"]:
        section, key = place.split(".")
        if rng.random() < 0.3:
            now = model.parts("\n".join(lines))
            if place not in now["settings"] and section in now["headers"]:
                at = lines.index("[" + section + "]") + 1
                lines.insert(at, key + " = " + rng.choice(VALUES))
    if rng.random() < 0.05:
        lines.insert(rng.randint(0, len(lines)), rng.choice(["[none]", "#~ 0 net.a", "#~ 9 net.a = 1"]))
    return lines


def history_of(releases, exclusions=()):
    """The history of the package for what the model is made of."""
    return History(
        *[Release(text, renames=renames, returns=returns) for text, renames, returns in releases],
        exclusions=exclusions,
    )


def world(seed, percent=8):
    """A random source, the model of a history, and the history: a crowded one if the seed is even."""
    rng = random.Random(seed)
    releases = releases_of(rng, rng.choice([4, 7, 9])) if seed % 2 else crowded_releases(rng)
    exclusions = exclusions_of(rng, releases, rng.choice([0, 3, 6]) if seed % 2 else percent)
    return rng, model.Past(releases, exclusions), history_of(releases, exclusions)


def plain(state):
    """A state of the package as the model has it."""
    return (state.release, state.rows, state.rules)


def state_of(plain_state):
    """A state of the model as the package has it."""
    return State(plain_state[0], plain_state[1], rules=plain_state[2])
