"""Values of every kind, for the tests of what takes any value."""


class Touchy:
    """A value that fails when it is asked anything."""

    def _fail(self, *_):
        raise RuntimeError("asked")

    __eq__ = __ne__ = __lt__ = __le__ = __gt__ = __ge__ = _fail
    __bool__ = __len__ = __hash__ = __iter__ = __getitem__ = __contains__ = __repr__ = _fail


class Agreeing:
    """A value that says that it is equal to everything."""

    def __eq__(self, other):
        return True

    def __hash__(self):
        return 0

    def __len__(self):
        return 1


def odd_values():
    """Values that are no string, integer, truth, tuple or list of any use here."""
    return [None, b"a", b"", {}, {"a": 1}, set(), {"a"}, frozenset(), object(), int, len, range(2),
            Touchy(), Agreeing(), Ellipsis, NotImplemented, ValueError("a"), (value for value in ())]


def holding(value):
    """Lists and tuples that contain a value."""
    return [[value], (value,), (value, value), [value, value], (value,) * 3, (value,) * 7, [[value]], ((value,),)]


def any_values():
    """Values of every kind, some of which may fit somewhere."""
    values = odd_values()
    values.extend([True, False, 0, 1, 2, 9, 10, -1, 10 ** 30, "", "a", "A", "abcdefgh", "abcdefghi", "a b", "lose"])
    values.extend([[], (), [()], ((),), ["a"], ("a",), ("a", "q"), ["a", "q"]])
    for value in odd_values():
        values.extend(holding(value))
    return values
