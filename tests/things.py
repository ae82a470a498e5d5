"""Objects of every kind that a caller may pass where the document says "any object"."""

NO_STRINGS = [
    None, True, False, 0, 1, -1, 7, 10 ** 19, -(10 ** 19),
    [], (), [""], ("",), ["a"], ("a",), ["a", "b"], ("a", "b"), [1], (1,), ["a.b"], ("a.b",),
    [[]], ((),), [None], (True, False), [[[[[["a"]]]]]], ((((((1,),),),),),), ["a"] * 499, ("a.b",) * 499,
]

ODD_STRINGS = [
    "", " ", "\n", "~", "#", "#~", "[a]", "a = 1", ".", "..", "-", "A", "a b", "a\n", "\na", "None", "x" * 5000,
]
