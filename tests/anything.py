"""Values of any kind, and things of which one place is otherwise."""

from kindsworn import errors


def nested(depth):
    """A value that is so deep, of lists, tuples and dicts."""
    value = None
    for level in range(depth):
        value = [value] if level % 3 == 0 else (value, True) if level % 3 == 1 else {"a": value, 1: ()}
    return value


def deep_tuple(depth):
    value = ("num",)
    for _ in range(depth):
        value = ("tuple", (value, 1))
    return value


def any_values():
    """Values of all sorts that may be handed to what takes any value."""
    return [
        None, True, False, 0, 1, -1, 2, 2147483647, 2147483648, -2147483648, -2147483649, 10 ** 39, -(10 ** 39),
        "", "x", "X", "x.y", "X.y", "X.Y", "X.Y.Z", ".", "X.", ".x", "x\n", "X.y\n", "get", "num", "var", "_", "?0",
        "x" * 20, "x" * 21, "x" * 3000, "X" * 3000, " " * 3000, "\n" * 3000, "#" * 3000, "x y", "x-y", "1", "x1_",
        (), [], {}, (None,), [None], ("num",), ["num"], ("var", 0), ["var", 0], ("var", True), ("var", -1),
        ("num", 1), ("num", True), ("truth", True), ("truth", 1), ("any",), ("bind", "x"), ("name", "x"),
        ((), ("num", 1)), ((), ()), [(), ("num", 1)], (0, ("num",)), (False, ("num",)), ((0, 1), (1,)), ((1,), (1,)),
        {"a": 1}, {0: ("num",)}, {True: ("num",)}, {None: ()}, {(): []}, ((), None), (((),), None),
        ("tuple", ()), ("tuple", []), ("record", (), None), ("record", {}, None), (("a", ("num",)),), (("a",),),
        ("of", "X", ()), ("of", "x", ()), ("make", "X", None), ("make", "X", ()), ("fn", "x", None),
        nested(30), [nested(29)], (nested(29), nested(29)), deep_tuple(15), ["x"] * 2900, ("num",) * 2900,
        errors.NoText(1, 2), errors.SwornError("x"), (errors.NotKind(), errors.Wrong(0)), [errors.Twice([], {})],
    ]


STRANGE = [
    None, True, False, 0, 1, -1, 3, 2147483648, -(10 ** 39), "", "x", "y", "X", "X.y", "X.X", "in", "x" * 21, "num",
    "tuple", "=", (), [], {}, ("num",), ["num"], ("num", 1), ("any",), ("bind", "x"), ("name", "x"), ("var", 0),
    ("var", 7), ("fn", "x", ("name", "x")), ("make", "X", None), ("of", "X", ()), ("x", ("num", 1)), ("x", ("num",)),
    ("x", ("any",)), ("x", "y", "z"), ("record", (), None), ("record", (), ("var", 0)), errors.NotKind(),
]


def spoilt(thing):
    """All things that come of a tuple if one place of it, of any depth, is exchanged, left out or added."""
    for other in STRANGE:
        yield other
    if not isinstance(thing, tuple):
        return
    yield list(thing)
    for at in range(len(thing) + 1):
        for other in ("x", None, 1, ("num", 1), ("num",)):
            yield thing[:at] + (other,) + thing[at:]
    for at in range(len(thing)):
        yield thing[:at] + thing[at + 1:]
        yield thing[:at + 1] + thing[at:]
        if at > 0:
            yield thing[:at - 1] + (thing[at], thing[at - 1]) + thing[at + 1:]
        for other in spoilt(thing[at]):
            yield thing[:at] + (other,) + thing[at + 1:]


def frozen(thing):
    """A text that is the same just for the same things, True and 1 being apart."""
    return f"{type(thing).__name__}:{thing!r}"
