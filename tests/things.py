"""Objects of every kind that a caller may pass where the document says "any object", and texts in short."""

NO_STRINGS = [
    None, True, False, 0, 1, -1, 7, 10 ** 19, -(10 ** 19),
    [], (), [""], ("",), ["a"], ("a",), ["a", "b"], ("a", "b"), [1], (1,), ["a.b"], ("a.b",),
    [[]], ((),), [None], (True, False), [[[[[["a"]]]]]], ((((((1,),),),),),), ["a"] * 499, ("a.b",) * 499,
]

ODD_STRINGS = [
    "", " ", "\n", "~", "#", "#~", "[a]", "a = 1", ".", "..", "-", "A", "a b", "a\n", "\na", "None", "x" * 5000,
]

# None of these is a slot or a release of a history with three of each.
NO_NUMBERS_BELOW_THREE = [
    3, 4, 12, 99, -1, -2, -3, 10 ** 19, -(10 ** 19), True, False, None, "", "0", "1", "net.port", "x" * 5000,
    [], (), [0], (0,), [[1]], ((2,),), [True], (None,), [0, 1], (0, "a"), [[[[[[0]]]]]], [0] * 499,
]


def text(*settings):
    """A text of one line for each setting, given as SECTION.KEY=VALUE."""
    lines, section = [], None
    for setting in settings:
        place, value = setting.split("=")
        name, key = place.split(".")
        if name != section:
            lines.append("[" + name + "]")
            section = name
        lines.append(key + " = " + value)
    return "\n".join(lines)
