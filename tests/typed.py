"""Random programs, many of which have a kind; each the same for the same chance."""

from kindsworn.reader import read_program
from kindsworn.trees import free_names, part_at, places_of, with_part

NUM, TRUTH, UNIT = ("num",), ("truth",), ("tuple", ())
DECLARATIONS = read_program(
    "kind List ?0 = Nil | Cons (?0, List ?0) kind Opt ?0 = No | Some ?0 kind Two ?0 ?1 = Left ?0 | Right ?1 "
    "kind Odd = End | More (Opt Odd) kind Fun ?0 = Fun (?0 -> ?0) give 1")[0]


def some_kind(chance, room):
    """A kind without variables."""
    way = chance.randrange(10 if room else 3)
    again = lambda: some_kind(chance, room - 1)
    if way < 2:
        return NUM
    if way == 2:
        return TRUTH
    if way == 3:
        return ("to", again(), again())
    if way == 4:
        return ("tuple", (again(), again()))
    if way == 5:
        return ("record", tuple((label, again()) for label in sorted(chance.sample("abc", chance.choice([1, 2])))), None)
    if way == 6:
        return ("cell", again())
    if way == 7:
        return ("of", chance.choice(["List", "Opt", "Fun"]), (again(),))
    return chance.choice([UNIT, ("of", "Two", (again(), again())), ("of", "Odd", ())])


class Maker:
    """Makes terms of kinds, with names of other kinds around."""

    def __init__(self, chance, wrong):
        self.chance = chance
        self.wrong = wrong
        self.names = 0

    def name(self):
        self.names += 1
        return self.chance.choice(["x", "y", "z", f"n{self.names}"])

    def some(self, kind, env, room):
        """A term that has a kind; at times one of another kind, so often as wrong tells in a thousand."""
        if self.chance.randrange(1000) < self.wrong:
            kind = some_kind(self.chance, 1)
        ways = [self.plainly]
        if room > 0:
            ways = [self.plainly] * 3 + [self.named, self.named, self.called, self.let, self.shared, self.rec, self.test,
                                     self.match, self.field, self.got, self.op]
        return self.chance.choice(ways)(kind, env, room - 1)

    def named(self, kind, env, room):
        names = [name for name in env if env[name] == kind]
        if not names:
            return self.plainly(kind, env, room)
        return ("name", self.chance.choice(names))

    def plainly(self, kind, env, room):
        names = [name for name in env if env[name] == kind]
        if names and self.chance.randrange(2):
            return ("name", self.chance.choice(names))
        head = kind[0]
        again = lambda part: self.some(part, env, room)
        if head == "num":
            return ("num", self.chance.randrange(9))
        if head == "truth":
            return ("truth", self.chance.choice([True, False]))
        if head == "to":
            name = self.name()
            return ("fn", name, self.some(kind[2], {**env, name: kind[1]}, room))
        if head == "tuple":
            if kind == UNIT and room > 0 and self.chance.randrange(3) == 0:
                return ("tell", again(NUM)) if self.chance.randrange(2) else ("put", again(("cell", NUM)), again(NUM))
            return ("tuple", tuple(again(part) for part in kind[1]))
        if head == "record":
            return ("record", tuple((label, again(part)) for label, part in kind[1]))
        if head == "cell":
            return ("new", again(kind[1]))
        rows = [row for name, _, rows in DECLARATIONS for row in rows if name == kind[1]]
        maker, within = self.chance.choice(rows if room > 0 else rows[:1])
        if within is None:
            return ("make", maker, None)
        return ("make", maker, again(put_kinds(within, kind[2])))

    def called(self, kind, env, room):
        other = some_kind(self.chance, 1)
        return ("call", self.some(("to", other, kind), env, room), self.some(other, env, room))

    def let(self, kind, env, room):
        name, other = self.name(), some_kind(self.chance, 1)
        return ("let", name, self.some(other, env, room), self.some(kind, {**env, name: other}, room))

    def shared(self, kind, env, room):
        """A let of the same function, or of a pair, that is used with several kinds."""
        name, other = self.name(), some_kind(self.chance, 1)
        env = {one: env[one] for one in env if one != name}
        use = lambda kind: ("call", ("name", name), self.some(kind, env, room))
        one = ("fn", "q", self.chance.choice([("name", "q"), ("let", "p", ("name", "q"), ("name", "p"))]))
        rest = ("match", ("tuple", (use(other), use(kind))), ((("tuple", (("any",), ("bind", "r"))), ("name", "r")),))
        return ("let", name, one, rest)

    def rec(self, kind, env, room):
        given, other = self.name(), some_kind(self.chance, 1)
        names = self.chance.choice([["f"], ["f", "g"]])
        mine = {**env, **{name: ("to", other, kind) for name in names}}
        group = tuple((name, ("fn", given, self.some(kind, {**mine, given: other}, room))) for name in names)
        return ("rec", group, self.some(kind, mine, room))

    def test(self, kind, env, room):
        return ("if", self.some(TRUTH, env, room), self.some(kind, env, room), self.some(kind, env, room))

    def match(self, kind, env, room):
        other = some_kind(self.chance, 2)
        rows = []
        for _ in range(self.chance.choice([1, 2, 3])):
            names = {}
            pattern = self.pattern(other, names, 2)
            rows.append((pattern, self.some(kind, {**env, **names}, room)))
        return ("match", self.some(other, env, room), tuple(rows))

    def pattern(self, kind, names, room):
        way = self.chance.randrange(4)
        if way == 0 or room == 0:
            name = self.chance.choice("abcxyz")
            if name in names:
                return ("any",)
            names[name] = kind
            return ("bind", name)
        if way == 1:
            return ("any",)
        again = lambda part: self.pattern(part, names, room - 1)
        if kind == NUM:
            return ("num", self.chance.randrange(3))
        if kind == TRUTH:
            return ("truth", self.chance.choice([True, False]))
        if kind[0] == "tuple":
            return ("tuple", tuple(again(part) for part in kind[1]))
        if kind[0] == "record":
            fields = [field for field in kind[1] if self.chance.randrange(3)] or kind[1][:1]
            return ("record", tuple((label, again(part)) for label, part in fields))
        if kind[0] == "of":
            rows = [row for name, _, rows in DECLARATIONS for row in rows if name == kind[1]]
            maker, within = self.chance.choice(rows)
            return ("make", maker, None if within is None else again(put_kinds(within, kind[2])))
        return ("any",)

    def field(self, kind, env, room):
        label = self.chance.choice("abc")
        names = [name for name in env if env[name][0] == "record" and (label, kind) in env[name][1]]
        if names:
            return ("field", ("name", self.chance.choice(names)), label)
        fields = {self.chance.choice("abc"): some_kind(self.chance, 0), label: kind}
        return ("field", self.some(("record", tuple(sorted(fields.items())), None), env, room), label)

    def got(self, kind, env, room):
        return ("get", self.some(("cell", kind), env, room))

    def op(self, kind, env, room):
        if kind not in (NUM, TRUTH):
            return self.plainly(kind, env, room)
        sign = self.chance.choice("+-*" if kind == NUM else "<=")
        return ("op", sign, self.some(NUM, env, room), self.some(NUM, env, room))


def put_kinds(kind, given):
    """The kind of a maker for these parameters."""
    if kind[0] == "var":
        return given[kind[1]]
    if kind[0] == "tuple":
        return ("tuple", tuple(put_kinds(part, given) for part in kind[1]))
    if kind[0] == "of":
        return ("of", kind[1], tuple(put_kinds(part, given) for part in kind[2]))
    if kind[0] in ("to", "cell"):
        return (kind[0],) + tuple(put_kinds(part, given) for part in kind[1:])
    return kind


def random_program(chance, room=4, wrong=10):
    """A program that often has a kind."""
    return (DECLARATIONS, Maker(chance, wrong).some(some_kind(chance, 2), {}, room))


def without_free(term, chance):
    """The term with something else in the place of names that are free in it."""
    for place in places_of(term)[::-1]:
        one = part_at(term, place)
        if one[0] == "name" and one[1] in free_names(term):
            term = with_part(term, place, chance.choice([("num", 1), ("truth", True), UNIT]))
    return term


def mixed_program(chance, room=4):
    """A program of which one part stands where another one stood."""
    declarations, term = random_program(chance, room)
    places = places_of(term)
    one, other = chance.choice(places), chance.choice(places)
    around = part_at(term, one[:-1]) if one else None
    part = part_at(term, other)
    if around is not None and around[0] == "rec" and one[-1] < len(around[1]) and part[0] != "fn":
        return (declarations, term)
    return (declarations, without_free(with_part(term, one, part), chance))


def loose_term(chance, env, room):
    """A term of these names, whether it has a kind or not."""
    way = chance.randrange(14 if room else 4)
    name = lambda: ("name", chance.choice(env)) if env else ("num", 1)
    again = lambda more=(): loose_term(chance, env + list(more), room - 1)
    one, other = chance.choice("abcd"), chance.choice("xyz")
    if way < 3:
        return name()
    if way == 3:
        return chance.choice([("num", 1), UNIT, ("truth", True)])
    if way < 6:
        return ("fn", other, again([other]))
    if way < 8:
        return ("call", name() if chance.randrange(2) else again(), again())
    if way == 8:
        return ("tuple", (again(), again()))
    if way == 9:
        return ("let", one, again(), again([one]))
    if way == 10:
        return ("record", tuple((label, again()) for label in chance.choice(["l", "lm"])))
    if way == 11:
        return ("field", name() if chance.randrange(3) else again(), chance.choice("lm"))
    if way == 12:
        pattern = ("tuple", (("bind", one), ("bind", other)))
        return ("match", again(), ((pattern, again([one, other])),))
    return ("rec", ((one, ("fn", other, again([one, other]))),), again([one]))


def settled_term(chance, env, room):
    """A term of these names, which is often SETTLED."""
    way = chance.randrange(4)
    if way < 2:
        name = chance.choice("xyz")
        return ("fn", name, loose_term(chance, env + [name], room))
    if way == 2 and room > 0:
        return ("tuple", (settled_term(chance, env, room - 1), ("name", chance.choice(env)) if env else ("num", 1)))
    return loose_term(chance, env, room)


def lets_program(chance):
    """A program of lets, and of functions around some of them, each of which uses the ones ahead."""
    env = []
    heads = []
    for _ in range(chance.randrange(1, 6)):
        name = chance.choice("abcdf")
        one = None if chance.randrange(5) == 0 else settled_term(chance, env, chance.choice([1, 2, 3]))
        heads.append((name, one))
        env = env + [name]
    term = loose_term(chance, env, 2)
    for name, one in heads[::-1]:
        term = ("fn", name, term) if one is None else ("let", name, one, term)
    return ((), term)
