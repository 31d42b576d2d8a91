"""Random kinds, patterns, terms, programs and modules, each the same for the same chance."""

NAMES = ["a", "b", "x", "y", "f", "v0", "v1", "v2", "M.x", "List.map"]
SMALL = [name for name in NAMES if "." not in name]
LABELS = ["a", "b", "ba", "left", "x_1"]
MAKERS = ["Nil", "Cons", "M.A", "Some"]


def random_labels(chance, least):
    return sorted(chance.sample(LABELS, chance.randrange(least, 4)))


def random_kind(chance, room, variables=(0, 1, 12), rests=(5, 77)):
    """A kind; its rests stand behind labels of their own."""
    way = chance.randrange(9 if room else 3)
    again = lambda: random_kind(chance, room - 1, variables, rests)
    if way == 0:
        return chance.choice([("num",), ("truth",)])
    if way == 1:
        return ("of", chance.choice(MAKERS), ())
    if way == 2:
        return ("var", chance.choice(variables)) if variables else ("tuple", ())
    if way == 3:
        return ("cell", again())
    if way == 4:
        return ("of", chance.choice(MAKERS), tuple(again() for _ in range(chance.randrange(3))))
    if way == 5:
        return ("tuple", tuple(again() for _ in range(chance.choice([0, 2, 3]))))
    if way == 6:
        rest = chance.choice(rests + (None,)) if rests else None
        labels = random_labels(chance, 0) if rest is None else LABELS[:rest % 4]
        return ("record", tuple((label, again()) for label in labels), None if rest is None else ("var", rest))
    return ("to", again(), again())


def random_pattern(chance, room, names):
    """A pattern that binds some of these names, which are taken out of the list."""
    way = chance.randrange(8 if room else 5)
    if way == 0:
        return ("any",)
    if way in (1, 2) and names:
        return ("bind", names.pop(chance.randrange(len(names))))
    if way in (1, 2, 3):
        return chance.choice([("num", 0), ("num", -7), ("truth", True), ("truth", False)])
    if way == 4:
        return ("make", chance.choice(MAKERS), None)
    if way == 5:
        return ("make", chance.choice(MAKERS), random_pattern(chance, room - 1, names))
    if way == 6:
        return ("tuple", tuple(random_pattern(chance, room - 1, names) for _ in range(chance.choice([0, 2, 3]))))
    labels = random_labels(chance, 1)
    return ("record", tuple((label, random_pattern(chance, room - 1, names)) for label in labels))


def random_term(chance, room, binds=NAMES, uses=NAMES):
    """A term; binds are what a let and a rec may bind."""
    again = lambda: random_term(chance, room - 1, binds, uses)
    small = [name for name in binds if "." not in name]
    if room == 0 or chance.randrange(12) == 0:
        return chance.choice([("num", chance.choice([0, 5, -5, 2147483647, -2147483648])), ("truth", True),
                              ("truth", False), ("name", chance.choice(uses)), ("tuple", ()),
                              ("make", chance.choice(MAKERS), None)] + [("name", name) for name in uses])
    way = chance.randrange(17)
    fn = lambda: ("fn", chance.choice(small), again())
    if way == 0:
        return fn()
    if way in (1, 2):
        return ("call", again(), again())
    if way == 3:
        return ("let", chance.choice(binds), again(), again())
    if way == 4:
        names = chance.sample(binds, chance.choice([1, 2, 3]))
        return ("rec", tuple((name, fn()) for name in names), again())
    if way == 5:
        return ("if", again(), again(), again())
    if way == 6:
        return ("tuple", tuple(again() for _ in range(chance.choice([2, 3]))))
    if way == 7:
        return ("record", tuple((label, again()) for label in random_labels(chance, 1)))
    if way in (8, 9):
        return ("field", again(), chance.choice(LABELS))
    if way == 10:
        return ("make", chance.choice(MAKERS), again())
    if way == 11:
        rows = tuple((random_pattern(chance, 2, list(small)), again()) for _ in range(chance.choice([1, 2])))
        return ("match", again(), rows)
    if way == 12:
        return (chance.choice(["new", "get", "tell"]), again())
    if way == 13:
        return ("put", again(), again())
    return ("op", chance.choice(["+", "-", "*", "<", "="]), again(), again())


def random_module(chance, name):
    """A module, whatever stands in it being there or not."""
    items = []
    for _ in range(chance.randrange(4)):
        way = chance.randrange(3)
        if way == 0:
            many = chance.randrange(3)
            makers = tuple((maker, chance.choice([None, random_kind(chance, 2, tuple(range(many)), ())]))
                           for maker in chance.sample(["A", "B", "C", "D"], chance.choice([1, 2, 3])))
            items.append(("kind", (chance.choice(["K", "L"]), many, makers)))
        elif way == 1:
            items.append(("let", chance.choice(SMALL), random_term(chance, 3, SMALL)))
        else:
            group = tuple((one, ("fn", chance.choice(SMALL), random_term(chance, 2, SMALL)))
                          for one in chance.sample(SMALL, chance.choice([1, 2])))
            items.append(("rec", group))
    uses = tuple(chance.sample([other for other in ("P", "Q", "R") if other != name], chance.randrange(3)))
    gives = [("value", "x"), ("value", "y"), ("kind", "K"), ("open", "K"), ("open", "L"), ("kind", "L")]
    return (name, uses, tuple(items), tuple(chance.sample(gives, chance.randrange(5))))
