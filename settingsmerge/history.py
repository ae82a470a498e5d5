"""Releases, and the slots that follow settings through all of them [6, 7]."""

from settingsmerge.errors import BadText, NoHistory, NoRelease, NoSlot
from settingsmerge.files import SettingsFile, is_value


def is_number_below(thing, limit):
    """Whether any object is an integer from 0 up to, but not including, the limit."""
    # True and False are of the kind int in Python, but they are no integers here.
    return isinstance(thing, int) and not isinstance(thing, bool) and 0 <= thing < limit


def is_key(thing, table):
    """Whether any object is a string that the dict has as a key."""
    # Not every object can be looked up in a dict: a list cannot.
    return isinstance(thing, str) and thing in table


def is_tuple_of(thing, many):
    """Whether any object is a tuple of so many parts."""
    return isinstance(thing, tuple) and len(thing) == many


def are_different(things):
    """Whether no string or number occurs twice in a list."""
    return len(set(things)) == len(things)


def unshared(thing):
    """The object itself, a list as a new tuple."""
    return tuple(thing) if isinstance(thing, list) else thing


def shipped_file(text):
    """The file of a shipped text; None for any object that is no file without kept lines."""
    try:
        file = SettingsFile(text)
    except BadText:
        return None
    return file if file.kept() == [] else None


def is_rename(thing, before, file):
    """Whether any object leads from a place of the release before (a dict) to one of this release (a file)."""
    return is_tuple_of(thing, 2) and is_key(thing[0], before) and thing[1] in file


def are_renames(things, before, file):
    """Whether any object is a list or tuple of renames that lead from the release before to this one."""
    if not isinstance(things, (list, tuple)) or not all([is_rename(thing, before, file) for thing in things]):
        return False
    return are_different([old for old, new in things]) and are_different([new for old, new in things])


def carried_slots(renames, before, file):
    """A dict from places of this release to the slots that they have from the release before."""
    origins = {new: old for old, new in renames}
    left = [old for old, new in renames]
    carried = {}
    for place in file.places():
        if place in origins:
            carried[place] = before[origins[place]]
        elif place in before and place not in left:
            carried[place] = before[place]
    return carried


def slot_returned(thing, earlier, carried, file):
    """The slot that a return brings back, None if any object is no return.

    The slots of the earlier releases are a list of dicts, this release is a file.
    """
    if not is_tuple_of(thing, 3):
        return None
    release, old, new = thing
    if not is_number_below(release, len(earlier)) or not is_key(old, earlier[release]):
        return None
    if new not in file or new in carried:
        return None
    slot = earlier[release][old]
    return slot if slot not in list(earlier[-1].values()) else None


def are_returns(things, earlier, carried, file):
    """Whether any object is a list or tuple of returns from earlier releases to this one."""
    if not isinstance(things, (list, tuple)):
        return False
    slots = [slot_returned(thing, earlier, carried, file) for thing in things]
    return None not in slots and are_different(slots) and are_different([thing[2] for thing in things])


class Release:
    """What a program ships with one release: any objects, until a history takes them."""

    def __init__(self, text, *, renames=(), returns=()):
        self.text = unshared(text)
        self.renames = unshared(renames)
        self.returns = unshared(returns)


class History:
    """The releases of a program, the slots of its settings, and the values that exclude each other."""

    MOST_RELEASES = 8
    MOST_SLOTS = 12

    def __init__(self, *releases, exclusions=()):
        if len(releases) == 0:
            raise NoHistory(0, "many")
        # The file of each release, and for each release a dict from its places to their slots.
        self.shipped_files = []
        self.slot_tables = []
        # For each slot a dict from the releases that have it to its places there.
        self.routes = []
        # Both orders of each exclusion, as tuples (slot, value, other, other_value).
        self.clashes = {}
        for at, release in enumerate(releases):
            self.take_release(at, release)
        for at, exclusion in enumerate(exclusions):
            self.take_exclusion(at, exclusion)

    def take_release(self, at, release):
        """Adds the next release, or raises NoHistory with its number and the kind of its fault."""
        if at == History.MOST_RELEASES:
            raise NoHistory(at, "many")
        file = shipped_file(release.text)
        if file is None:
            raise NoHistory(at, "text")
        before = self.slot_tables[-1] if at > 0 else {}
        if not are_renames(release.renames, before, file):
            raise NoHistory(at, "rename")
        carried = carried_slots(release.renames, before, file)
        if not are_returns(release.returns, self.slot_tables, carried, file):
            raise NoHistory(at, "return")
        returned = {new: self.slot_tables[named][old] for named, old, new in release.returns}
        self.take_places(at, file, {**carried, **returned})
        if self.slots > History.MOST_SLOTS:
            raise NoHistory(at, "many")

    def take_places(self, at, file, known):
        """Adds the places of a release, with the slots that are known and new ones for the others."""
        table = {}
        for place in file.places():
            if place in known:
                table[place] = known[place]
            else:
                table[place] = len(self.routes)
                self.routes.append({})
            self.routes[table[place]][at] = place
        self.shipped_files.append(file)
        self.slot_tables.append(table)

    def take_exclusion(self, at, thing):
        """Adds an exclusion, or raises NoHistory with its number and the kind of its fault."""
        sides = [self.side_of(part) for part in thing] if is_tuple_of(thing, 2) else [None]
        if None in sides or sides[0][0] == sides[1][0]:
            raise NoHistory(at, "exclusion")
        (slot, value), (other, other_value) = sides
        for release in range(len(self.slot_tables)):
            if self.shipped_value(slot, release) == value and self.shipped_value(other, release) == other_value:
                raise NoHistory(at, "shipped")
        self.clashes[(slot, value, other, other_value)] = True
        self.clashes[(other, other_value, slot, value)] = True

    def side_of(self, thing):
        """The tuple (slot, value) that one side of an exclusion names; None for any other object."""
        if not is_tuple_of(thing, 3):
            return None
        release, place, value = thing
        if not is_number_below(release, len(self.slot_tables)) or not is_key(place, self.slot_tables[release]):
            return None
        return (self.slot_tables[release][place], value) if is_value(value) else None

    def check_slot(self, slot):
        """Raises NoSlot for any object that is no slot."""
        if not is_number_below(slot, len(self.routes)):
            raise NoSlot(slot)

    def check_release(self, release):
        """Raises NoRelease for any object that is no release."""
        if not is_number_below(release, len(self.slot_tables)):
            raise NoRelease(release)

    @property
    def slots(self):
        """The number of slots."""
        return len(self.routes)

    @property
    def has_exclusions(self):
        """Whether there is an exclusion."""
        return len(self.clashes) > 0

    def place_of(self, slot, release):
        """The place of the slot in the release, None if it has none there."""
        self.check_slot(slot)
        self.check_release(release)
        return self.routes[slot].get(release)

    def shipped_value(self, slot, release):
        """The value that the release ships for the slot, None if the release does not have it."""
        place = self.place_of(slot, release)
        return None if place is None else self.shipped_files[release].value(place)

    def slot_at(self, place, release):
        """The slot of a place in the release, None for any object that is no place of it."""
        self.check_release(release)
        return self.slot_tables[release][place] if is_key(place, self.slot_tables[release]) else None

    def shipped_text(self, release):
        """The text that the release ships."""
        self.check_release(release)
        return self.shipped_files[release].text

    def kept_place(self, slot):
        """The tuple (release, place) by which a kept line names the slot."""
        self.check_slot(slot)
        release = max(list(self.routes[slot]))
        return (release, self.routes[slot][release])

    def excluded(self, slot, value, other, other_value):
        """Whether the two values, perhaps None, exclude each other."""
        self.check_slot(slot)
        self.check_slot(other)
        return (slot, value, other, other_value) in self.clashes

    def __len__(self):
        return len(self.slot_tables)
