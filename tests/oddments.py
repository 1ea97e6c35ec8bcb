"""Things of wrong kinds that the tests hand in."""


class EqualToAll:
    """Would pass for a name wherever names are only compared."""

    def __eq__(self, other):
        return True

    def __hash__(self):
        return hash("a")


# None of these is a name.
NO_NAMES = [
    "", "abcdefghi", "A", "aB", "a1", "1", " ", "a b", " a", "a ", "a\n", "\na", "\n", "a-b", "a_b",
    "\u00e4", "\u0430", "\u00df", "\uff41", "`", "{", "@", None, True, False, 0, 1, -5,
    [], ["a"], {}, {"a": 1}, (), ("a",), {"a"}, frozenset("a"), b"a", object(), EqualToAll(), str, len,
]

# None of these is a whole number within any bounds of the document's.
NO_WHOLE_NUMBERS = [
    0, -1, -1000, -10 ** 30, 10 ** 30, 10 ** 5000, True, False, None, "1", "", "x", [], [1], {}, (), (1,),
    {1}, b"1", object(), EqualToAll(), int,
]

# None of these is a list.
NO_LISTS = [None, True, False, 0, 1, "", "ab", (), {}, {"a": 1}, set(), object(), EqualToAll(), list]

# None of these is the weight of a piece.
NO_WEIGHTS = NO_WHOLE_NUMBERS + [10 ** 9 + 1, 10 ** 9 + 2]

# None of these is a fraction.
NO_FRACTIONS = [
    (), (1,), (0,), (1, 2, 3), (0, 1, 1), (1, 1, 1), (True, 1), (False, 1), (1, True), (0, True), (True, True),
    ("1", 1), (1, "1"), ("0", "1"), (None, 1), (0, None), ((1, 2), 3), (1, [2]), (1, 0), (0, 0), (-1, 0), (5, 0),
    (1, -1), (0, -1), (-1, -2), (3, -2), (2, 4), (2, 2), (-2, 2), (-2, 4), (6, 4), (10 ** 9, 10 ** 9), (0, 2),
    (0, 3), (0, 1000), (EqualToAll(), 1), (1, EqualToAll()), [0, 1], [1, 2], {0: 1}, "1/2", "01", (b"0", 1),
    None, True, False, 0, 1, -1, "", "1", [], {}, set(), b"01", object(), EqualToAll(), tuple, len,
]
