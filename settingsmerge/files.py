"""Names, places, values, and the files that hold settings [2, 4, 5]."""

from settingsmerge.errors import BadText, NoPlace

LETTERS = "abcdefghijklmnopqrstuvwxyz"
DIGITS = "0123456789"
LONGEST_NAME = 8
LONGEST_VALUE = 12
LONGEST_RELEASE = 2
KEPT_MARK = "#~"


def is_made_of(thing, characters, most):
    """Whether any object is a string of 1 to `most` of these characters."""
    if not isinstance(thing, str) or thing == "" or len(thing) > most:
        return False
    return all([character in characters for character in thing])


def is_name(thing):
    """Whether any object is a name."""
    return is_made_of(thing, LETTERS, LONGEST_NAME)


def is_place(thing):
    """Whether any object is a place."""
    if not isinstance(thing, str):
        return False
    section, dot, key = thing.partition(".")
    return is_name(section) and is_name(key)


def is_value(thing):
    """Whether any object is a value of a setting."""
    return is_made_of(thing, LETTERS + DIGITS + "-", LONGEST_VALUE) and not thing.startswith("-")


def section_of(place):
    """The section of a place."""
    return place.partition(".")[0]


def key_of(place):
    """The key of a place."""
    return place.partition(".")[2]


def is_release_word(thing):
    """Whether any object is a release as a kept line writes it."""
    return is_made_of(thing, DIGITS, LONGEST_RELEASE) and (thing == "0" or not thing.startswith("0"))


def is_header(line):
    """Whether a line is a header."""
    return line.startswith("[") and line.endswith("]") and is_name(line[1:-1])


def is_loose(line):
    """Whether a line is a remark or blank."""
    return line == "" or (line.startswith("#") and not line.startswith(KEPT_MARK))


def read_setting(line):
    """The tuple (key, value) of a setting; None for any other line."""
    key, equals, value = line.partition(" = ")
    return (key, value) if is_name(key) and is_value(value) else None


def read_kept(line):
    """The tuple (release, place, value or None) of a kept line; None for any other line."""
    mark, gap, rest = line.partition(" ")
    word, gap, named = rest.partition(" ")
    place, equals, value = named.partition(" = ")
    if mark != KEPT_MARK or not is_release_word(word) or not is_place(place):
        return None
    if equals == "":
        return (int(word), place, None)
    return (int(word), place, value) if is_value(value) else None


class SettingsFile:
    """A text of settings that was read and found to be a file."""

    def __init__(self, text):
        if not isinstance(text, str):
            raise BadText(-1, "text")
        self.text = text
        # The empty string has no lines, whereas split would give it a blank one.
        self.rows = text.split("\n") if text != "" else []
        self.headers = []
        self.settings_read = {}
        self.kept_read = {}
        self.blocks = {}
        # The remarks and blank lines since the last header or setting: the tail, once all lines are read.
        self.loose = []
        for at, line in enumerate(list(self.rows)):
            kind = self.take(line)
            if kind is not None:
                raise BadText(at, kind)

    def take(self, line):
        """Reads the next line; returns its kind if the text is no file because of it, otherwise None."""
        if is_loose(line):
            self.loose.append(line)
            return None
        if line.startswith(KEPT_MARK):
            return self.take_kept(line)
        if is_header(line):
            return self.take_header(line[1:-1])
        setting = read_setting(line)
        if setting is None:
            return "line"
        key, value = setting
        return self.take_setting(key, value)

    def take_kept(self, line):
        """Reads a line that begins as kept lines do; returns what `take` returns."""
        kept = read_kept(line)
        if kept is None:
            return "kept"
        release, place, value = kept
        if (release, place) in self.kept_read:
            return "again"
        self.kept_read[(release, place)] = value
        return None

    def take_header(self, name):
        """Reads the header of this name; returns what `take` returns."""
        if name in self.headers:
            return "section"
        self.headers.append(name)
        self.close_block(name)
        return None

    def take_setting(self, key, value):
        """Reads a setting; returns what `take` returns."""
        if self.headers == []:
            return "outside"
        place = self.headers[-1] + "." + key
        if place in self.settings_read:
            return "key"
        self.settings_read[place] = value
        self.close_block(place)
        return None

    def close_block(self, thing):
        """Makes the remarks and blank lines that were read the block of this header or setting."""
        self.blocks[thing] = self.loose
        self.loose = []

    @property
    def lines(self):
        """The list of lines."""
        return list(self.rows)

    def sections(self):
        """The list of the names of the headers."""
        return list(self.headers)

    def places(self):
        """The list of the places of the settings."""
        return list(self.settings_read)

    def value(self, place):
        """The value of the setting at this place."""
        if place not in self:
            raise NoPlace(place)
        return self.settings_read[place]

    def kept(self):
        """The list of tuples (release, place, value or None) of the kept lines."""
        return [(release, place, self.kept_read[(release, place)]) for release, place in self.kept_read]

    def block(self, thing):
        """The block of a header, by its name, or of a setting, by its place."""
        # Not every object can be looked up in a dict: a list cannot.
        if not isinstance(thing, str) or thing not in self.blocks:
            raise NoPlace(thing)
        return list(self.blocks[thing])

    def tail(self):
        """The list of the remarks and blank lines below the last header or setting."""
        return list(self.loose)

    def pairs(self):
        """Yields the tuples (place, value) of the settings."""
        for place in self.settings_read:
            yield (place, self.settings_read[place])

    def __len__(self):
        return len(self.settings_read)

    def __contains__(self, x):
        return isinstance(x, str) and x in self.settings_read

    def __eq__(self, other):
        return isinstance(other, SettingsFile) and self.text == other.text

    def __str__(self):
        return str(self.text)
