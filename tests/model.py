"""A second reading of DOC.md [6 to 20], slow and plain, to hold the package against."""

import itertools
import re

HEADER = re.compile(r"\[([a-z]+)\]")
SETTING = re.compile(r"([a-z]+) = (\S+)")
KEPT = re.compile(r"#~ (\d+) (\S+)(?: = (\S+))?")


def parts(text):
    """A dict of a file: the headers, the settings (place to value), the blocks, the tail, the kept lines."""
    read = {"headers": [], "settings": {}, "blocks": {}, "kept": {}, "tail": []}
    for line in text.split("\n") if text else []:
        if line.startswith("#~"):
            release, place, value = KEPT.fullmatch(line).groups()
            read["kept"][int(release), place] = value
            continue
        thing = None
        if HEADER.fullmatch(line):
            thing = line[1:-1]
            read["headers"].append(thing)
        elif SETTING.fullmatch(line):
            key, value = SETTING.fullmatch(line).groups()
            thing = read["headers"][-1] + "." + key
            read["settings"][thing] = value
        if thing is None:
            read["tail"].append(line)
        else:
            read["blocks"][thing], read["tail"] = read["tail"], []
    return read


class Past:
    """A history, from tuples (text, renames, returns) and exclusions that are known to be right."""

    def __init__(self, releases, exclusions=()):
        self.releases = releases
        self.files = [parts(text) for text, renames, returns in releases]
        found = []
        for at, file in enumerate(self.files):
            found += [(at, place) for place in file["settings"] if self.origin(at, place) == (at, place)]
        self.origins = found
        self.exclusions = [
            ((self.slot(*first[:2][::-1]), first[2]), (self.slot(*second[:2][::-1]), second[2]))
            for first, second in exclusions
        ]

    def origin(self, at, place):
        """The first release and place of the slot that this place has."""
        text, renames, returns = self.releases[at]
        for old, new in renames:
            if new == place:
                return self.origin(at - 1, old)
        if at and place in self.files[at - 1]["settings"] and place not in [old for old, new in renames]:
            return self.origin(at - 1, place)
        for named, old, new in returns:
            if new == place:
                return self.origin(named, old)
        return (at, place)

    def slot(self, place, at):
        return self.origins.index(self.origin(at, place)) if place in self.files[at]["settings"] else None

    def place(self, slot, at):
        return next((place for place in self.files[at]["settings"] if self.slot(place, at) == slot), None)

    def shipped(self, slot, at):
        return self.files[at]["settings"].get(self.place(slot, at))

    def kept(self, slot):
        return max((at, self.place(slot, at)) for at in range(len(self.files)) if self.place(slot, at))

    def clash(self, slot, value, other, other_value):
        both = ((slot, value), (other, other_value))
        return both in self.exclusions or both[::-1] in self.exclusions


def fresh(past, release):
    return (release, tuple((past.shipped(slot, release), "follows", ()) for slot in range(len(past.origins))), ())


def shown(past, release, text):
    """The dict from the slots with a line to the values, or the tuple (line, kind) of a line that is not allowed."""
    values, section = {}, None
    for at, line in enumerate(text.split("\n") if text else []):
        if HEADER.fullmatch(line):
            section = line[1:-1]
            if section not in past.files[release]["headers"]:
                return (at, "section")
        elif line.startswith("#~"):
            named, place, value = KEPT.fullmatch(line).groups()
            slots = [slot for slot in range(len(past.origins))
                     if past.kept(slot) == (int(named), place) and past.place(slot, release) is None]
            if not slots:
                return (at, "kept")
            values[slots[0]] = value
        elif SETTING.fullmatch(line):
            key, value = SETTING.fullmatch(line).groups()
            slot = past.slot(section + "." + key, release)
            if slot is None:
                return (at, "place")
            values[slot] = value
    return values


def edit(past, state, text):
    """The state after an edit, or the tuple of what is wrong with it."""
    release, rows, rules = state
    values = shown(past, release, text)
    if isinstance(values, tuple):
        return values
    made = []
    for slot, (value, status, overruled) in enumerate(rows):
        there = past.place(slot, release) is not None
        line_before = not there and status == "own"
        line_now = not there and slot in values
        new = values.get(slot)
        if new == value and line_before == line_now:
            made.append(rows[slot])
        elif there and new == past.shipped(slot, release):
            made.append((new, "follows", ()))
        elif not there and not line_now:
            made.append((None, "follows", ()))
        else:
            gone = set(overruled) if status == "own" else set()
            gone |= {past.shipped(slot, release)}
            made.append((new, "own", tuple(sorted(gone - {None, new}))))
    for slot, other in itertools.combinations(range(len(rows)), 2):
        if past.clash(slot, made[slot][0], other, made[other][0]):
            return ("excluded", slot, other)
    return (release, tuple(made), rules)


def is_open(past, state, to, slot):
    return state[1][slot][0] != past.shipped(slot, to)


def claims(past, state, to):
    """The claims at the beginning, and a dict from slots to the scopes of the rules that withdrew one."""
    found, withdrawn = [], {}
    for slot, (value, status, overruled) in enumerate(state[1]):
        if not is_open(past, state, to, slot):
            continue
        coming = past.shipped(slot, to)
        own, ships = status == "own", coming is not None and coming not in overruled
        if own and ships:
            section = past.place(slot, to).split(".")[0]
            rules = dict(state[2])
            scope = next((s for s in (("setting", slot), ("section", section), ("all", "")) if s in rules), None)
            if scope:
                withdrawn[slot] = scope
                own, ships = rules[scope] == "own", rules[scope] == "shipped"
        found += [(slot, "own")] * own + [(slot, "shipped")] * ships
    return found, withdrawn


def needs(past, state, to):
    slots = [slot for slot in range(len(state[1])) if is_open(past, state, to, slot)]
    return [(a, b) for a in slots for b in slots if past.clash(a, state[1][a][0], b, past.shipped(b, to))]


def chain(pairs, start, end):
    """The first chain of all, the shorter ones first, those of one length in their order; None without any."""
    paths = [(start,)]
    while paths:
        for path in sorted(paths):
            if path[-1] == end:
                return path
        paths = [path + (b,) for path in paths for a, b in pairs if a == path[-1] and b not in path]
    return None


def least_cover(conflicts):
    asked = sorted({(x, "own") for x, y in conflicts} | {(y, "shipped") for x, y in conflicts})
    for size in range(len(asked) + 1):
        for cover in itertools.combinations(asked, size):
            if all((x, "own") in cover or (y, "shipped") in cover for x, y in conflicts):
                return cover


class Jump:
    """A jump with all its answers: `answer` is called with each claim that is asked."""

    def __init__(self, past, state, to, answer):
        self.past, self.state, self.to = past, state, to
        standing, self.withdrawn = claims(past, state, to)
        self.pairs = needs(past, state, to)
        self.slots = [slot for slot in range(len(state[1])) if is_open(past, state, to, slot)]
        self.chains = {(a, b): chain(self.pairs, a, b) for a in self.slots for b in self.slots}
        self.first = [(x, y) for x in self.slots for y in self.slots
                      if (x, "own") in standing and (y, "shipped") in standing and self.chains[x, y]]
        self.steps, self.answers, self.settled = [], [], {}
        left = list(self.first)
        while left:
            cover = least_cover(left)
            self.steps.append((list(standing), list(left), cover))
            claim = cover[0]
            stands = answer(claim)
            falling = {claim}
            if stands:
                falling = {other for x, y in left for own, other in (((x, "own"), (y, "shipped")),
                           ((y, "shipped"), (x, "own"))) if own == claim}
            standing = [each for each in standing if each not in falling]
            for conflict in left:
                if (conflict[0], "own") in falling or (conflict[1], "shipped") in falling:
                    self.settled[conflict] = len(self.answers)
            left = [conflict for conflict in left if conflict not in self.settled]
            self.answers.append(stands)
        self.standing = standing
        self.owners = [slot for slot, side in standing if side == "own"]

    def needed(self, slot):
        """The shortest and least chain to the slot from one whose own claim stands."""
        found = [self.chains[owner, slot] for owner in self.owners if self.chains.get((owner, slot))]
        return min(found, key=lambda path: (len(path), path), default=None)

    def row(self, slot):
        value, status, overruled = self.state[1][slot]
        coming = self.past.shipped(slot, self.to)
        if value == coming:
            return (value, "follows", ()) if status == "held" else (value, status, overruled)
        if slot in self.owners:
            return (value, "own", tuple(sorted({*overruled, coming} - {None})))
        if self.needed(slot):
            before = overruled if status == "held" else ()
            return (value, "held", tuple(sorted({*before, coming})))
        return (coming, "follows", ())

    def result(self):
        return (self.to, tuple(self.row(slot) for slot in range(len(self.state[1]))), self.state[2])

    def reason(self, slot):
        value, status, overruled = self.state[1][slot]
        if self.row(slot)[1] == "held":
            return ("held", self.needed(slot))
        if any(slot in conflict for conflict in self.first):
            return ("answers", tuple(sorted({self.settled[c] for c in self.first if slot in c})))
        if slot in self.withdrawn:
            return ("rule", self.withdrawn[slot])
        if status == "own" and self.past.shipped(slot, self.to) in overruled:
            return ("overruled",)
        return ("free",)

    def report(self):
        return [(slot, self.reason(slot)) for slot, row in enumerate(self.state[1])
                if slot in self.slots or row[1] == "held"]


def written(past, text, before, after):
    own, old, new = parts(text), past.files[before[0]], past.files[after[0]]

    def block(thing, former):
        if former in own["blocks"] and own["blocks"][former] != old["blocks"][former]:
            return own["blocks"][former]
        return new["blocks"][thing]

    def section(place):
        return place.split(".")[0]

    lines = []
    for name in new["headers"]:
        lines += block(name, name) + ["[" + name + "]"]
        shipped = [past.slot(place, after[0]) for place in new["settings"] if section(place) == name]
        order = []
        for place in own["settings"]:
            slot = past.slot(place, before[0])
            if section(place) == name and slot in shipped and after[1][slot][0] is not None:
                order.append(slot)
        for at, slot in enumerate(shipped):
            if after[1][slot][0] is not None and slot not in order:
                above = [other for other in shipped[:at] if other in order]
                where = order.index(above[-1]) + 1 if above else 0
                order = order[:where] + [slot] + order[where:]
        for slot in order:
            place = past.place(slot, after[0])
            lines += block(place, past.place(slot, before[0]))
            lines.append(place.split(".")[1] + " = " + after[1][slot][0])
    lines += own["tail"] if own["tail"] != old["tail"] else new["tail"]
    for slot, (value, status, overruled) in enumerate(after[1]):
        if past.place(slot, after[0]) is None and status == "own":
            lines.append("#~ %d %s" % past.kept(slot) + ("" if value is None else " = " + value))
    return "" if lines == [""] else "\n".join(lines)
