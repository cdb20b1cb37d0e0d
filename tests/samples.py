"""Values of any kind, and how to take the right ones out of them."""

ANY_VALUES = [
    None, True, False, -3, -2, -1, 0, 1, 2, 3, 4, 10, 1100, 999999999999,
    "", " ", "a", "b", "main", "dev", "in", "out", "none", "0", "1", "2", "3", "1100", "newest", "make", "Main",
    "true", "shape", "\n", "main\n", "a b",
    [], (), [0], [1], [2], [3], (0,), (1,), (2,), (3,), [True], (True,), (False,), (None,), ["main"], ("main",),
    ["newest"], ("newest",), ["1100"], ("1100",), ("in",), [[]], ((),), [[2]], ((2,), [3]), [None, [True, ["a"]]],
    ("make", ("main", (0,))),
]


def same(one, other):
    """Whether two values are equal and of the same kinds throughout: True is not 1, and a list is no tuple."""
    if type(one) is not type(other) or one != other:
        return False
    if isinstance(one, (list, tuple)):
        return all(same(left, right) for left, right in zip(one, other))
    return True


def among(value, values):
    """Whether a value is the same as one of some values."""
    return any(same(value, other) for other in values)


def others(*right):
    """All values of any kind but these."""
    return [value for value in ANY_VALUES if not among(value, right)]
