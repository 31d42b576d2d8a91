"""What the document says of kinds made the same and of the rules of kinds, told once more, plainly and slowly."""

from kindsworn.trees import bound_at, free_names, is_settled, names_of, part_at, parts_of, places_of

NUM, TRUTH, UNIT = ("num",), ("truth",), ("tuple", ())


class No(Exception):
    """There is none."""


def put(kind, sub):
    """The kind in which a substitution is put."""
    if kind[0] == "var":
        return sub.get(kind[1], kind)
    if kind[0] in ("num", "truth"):
        return kind
    if kind[0] == "tuple":
        return ("tuple", tuple(put(part, sub) for part in kind[1]))
    if kind[0] == "of":
        return ("of", kind[1], tuple(put(part, sub) for part in kind[2]))
    if kind[0] == "record":
        fields = {label: put(part, sub) for label, part in kind[1]}
        rest = kind[2]
        if rest is not None and rest[1] in sub:
            fields.update(dict(sub[rest[1]][0]))
            rest = sub[rest[1]][1]
        return ("record", tuple(sorted(fields.items())), rest)
    return (kind[0],) + tuple(put(part, sub) for part in kind[1:])


def put_row(row, sub):
    return put(("record",) + row, sub)[1:]


def put_thing(thing, sub):
    return put(thing, sub) if isinstance(thing[0], str) else put_row(thing, sub)


def variables(thing):
    """All variables of a kind, in order, as often as they stand."""
    if thing[0] == "var":
        return [thing[1]]
    if thing[0] == "record":
        rest = [] if thing[2] is None else [thing[2][1]]
        return [index for _, part in thing[1] for index in variables(part)] + rest
    parts = thing[1] if thing[0] == "tuple" else thing[2] if thing[0] == "of" else thing[1:]
    return [index for part in parts for index in variables(part)] if thing[0] not in ("num", "truth") else []


def all_variables(pairs):
    return sorted({index for pair in pairs for kind in pair for index in variables(kind)})


class Solution:
    """A substitution that grows; all that it has is put in wherever it can be."""

    def __init__(self, next_one):
        self.sub = {}
        self.next_one = next_one

    def fresh(self):
        self.next_one += 1
        return self.next_one - 1

    def bind(self, index, thing):
        if index in variables(thing if isinstance(thing[0], str) else ("record",) + thing):
            raise No()
        self.sub = {key: put_thing(value, {index: thing}) for key, value in self.sub.items()}
        self.sub[index] = thing

    def same(self, one, other):
        one, other = put(one, self.sub), put(other, self.sub)
        if one == other:
            return
        if one[0] == "var":
            return self.bind(one[1], other)
        if other[0] == "var":
            return self.bind(other[1], one)
        if one[0] != other[0]:
            raise No()
        if one[0] == "record":
            return self.same_records(one, other)
        parts = lambda kind: kind[1] if kind[0] == "tuple" else kind[2] if kind[0] == "of" else kind[1:]
        if len(parts(one)) != len(parts(other)) or (one[0] == "of" and one[1] != other[1]):
            raise No()
        for part, another in zip(parts(one), parts(other)):
            self.same(part, another)

    def same_records(self, one, other):
        for label, part in one[1]:
            if label in dict(other[1]):
                self.same(part, dict(other[1])[label])
        one, other = put(one, self.sub), put(other, self.sub)
        spare = tuple(field for field in one[1] if field[0] not in dict(other[1]))
        lacks = tuple(field for field in other[1] if field[0] not in dict(one[1]))
        if (spare and other[2] is None) or (lacks and one[2] is None):
            raise No()
        if one[2] == other[2]:
            if spare or lacks:
                raise No()
        elif one[2] is None:
            self.bind(other[2][1], (spare, None))
        elif other[2] is None:
            self.bind(one[2][1], (lacks, None))
        elif not spare:
            self.bind(one[2][1], (lacks, other[2]))
        elif not lacks:
            self.bind(other[2][1], (spare, one[2]))
        else:
            rest = ("var", self.fresh())
            self.bind(one[2][1], (lacks, rest))
            self.bind(other[2][1], (put_row((spare, None), self.sub)[0], rest))


def solve(pairs):
    """A most general unifier of pairs, None if there is none."""
    found = Solution(max([-1] + all_variables(pairs)) + 1)
    try:
        for one, other in pairs:
            found.same(one, other)
    except No:
        return None
    return found.sub


def alike_text(things):
    """A text of kinds and rows that is the same for the same ones but for the numbers of variables."""
    names = {}

    def told(thing):
        if isinstance(thing, tuple) and len(thing) == 2 and thing[0] == "var":
            return f"?{names.setdefault(thing[1], len(names))}"
        if isinstance(thing, (tuple, list)):
            return "(" + ",".join(told(part) for part in thing) + ")"
        return repr(thing)

    return told(things)


class Kinds:
    """Kinds of all places as the rules of a lot want them; those of whole programs have names that are not hidden."""

    def __init__(self, program, lot):
        self.declarations, self.term = program
        self.lot = set(lot)
        self.solution = Solution(0)
        self.kinds = {}
        self.look(self.term, (), {})
        self.kinds = {place: put(kind, self.solution.sub) for place, kind in sorted(self.kinds.items())}

    def var(self):
        return ("var", self.solution.fresh())

    def same(self, one, other):
        self.solution.same(one, other)

    def maker(self, name):
        for kind_name, many, rows in self.declarations:
            for maker, kind in rows:
                if maker == name:
                    given = tuple(self.var() for _ in range(many))
                    return ("of", kind_name, given), kind and put(kind, dict(enumerate(given)))

    def pattern(self, pattern, names):
        if pattern[0] in ("num", "truth"):
            return (pattern[0],)
        if pattern[0] == "tuple":
            return ("tuple", tuple(self.pattern(part, names) for part in pattern[1]))
        if pattern[0] == "record":
            fields = tuple((label, self.pattern(part, names)) for label, part in pattern[1])
            return ("record", fields, self.var())
        if pattern[0] == "make":
            made, within = self.maker(pattern[1])
            if pattern[2] is not None:
                self.same(within, self.pattern(pattern[2], names))
            return made
        kind = self.var()
        if pattern[0] == "bind":
            names[pattern[1]] = ([], kind)
        return kind

    def general(self, kind, env):
        """The variables of a kind that stand in no kind of what can be named."""
        fixed = set()
        for entry in env.values():
            if entry is not None:
                fixed |= set(variables(put(entry[1], self.solution.sub))) - set(entry[0])
        kind = put(kind, self.solution.sub)
        return sorted(set(variables(kind)) - fixed), kind

    def instance(self, entry):
        if entry is None:
            return self.var()
        general, kind = entry
        kind = put(kind, self.solution.sub)
        rests = {one[2][1] for one in records_of(kind) if one[2] is not None}
        return put(kind, {index: ((), self.var()) if index in rests else self.var() for index in general})

    def look(self, term, place, env):
        """The kind at a place; env has for each name the general variables of its kind, and this; None for any."""
        own = self.kinds[place] = self.var()
        part = lambda index, more={}: self.look(parts_of(term)[index], place + (index,), {**env, **more})
        rows = [(0, {}) for _ in parts_of(term)]
        if place not in self.lot:
            for index in range(len(parts_of(term))):
                within = set(bound_at(term, (index,)))
                part(index, {name: None for name in within})
            return own
        head = term[0]
        if head in ("num", "truth"):
            self.same(own, (head,))
        elif head == "name":
            self.same(own, self.instance(env[term[1]]))
        elif head == "fn":
            given = self.var()
            self.same(own, ("to", given, self.var()))
            self.same(own, ("to", given, part(0, {term[1]: ([], given)})))
        elif head == "call":
            function, argument = part(0), part(1)
            self.same(function, ("to", argument, own))
        elif head == "let":
            one = part(0)
            entry = self.general(one, env) if is_settled(term[2]) else ([], one)
            self.same(own, part(1, {term[1]: entry}))
        elif head == "rec":
            self.rec(term, place, env, own)
        elif head == "if":
            self.same(part(0), TRUTH)
            self.same(own, part(1))
            self.same(own, part(2))
        elif head == "tuple":
            self.same(own, ("tuple", tuple(part(index) for index in range(len(rows)))))
        elif head == "record":
            self.same(own, ("record", tuple((label, part(at)) for at, (label, _) in enumerate(term[1])), None))
        elif head == "field":
            self.same(part(0), ("record", ((term[2], own),), self.var()))
        elif head == "make":
            made, within = self.maker(term[1])
            self.same(own, made)
            if within:
                self.same(part(0), within)
        elif head == "match":
            one = part(0)
            for at, (pattern, _) in enumerate(term[2]):
                names = {}
                self.same(one, self.pattern(pattern, names))
                self.same(own, part(at + 1, names))
        elif head == "new":
            self.same(own, ("cell", part(0)))
        elif head == "get":
            self.same(part(0), ("cell", own))
        elif head == "put":
            one = part(0)
            self.same(one, ("cell", part(1)))
            self.same(own, UNIT)
        elif head == "op":
            self.same(part(0), NUM)
            self.same(part(1), NUM)
            self.same(own, TRUTH if term[1] in "<=" else NUM)
        elif head == "tell":
            self.same(part(0), NUM)
            self.same(own, UNIT)
        return own

    def rec(self, term, place, env, own):
        names = [name for name, _ in term[1]]
        mine = {name: ([], self.var()) for name in names}
        for at, (name, function) in enumerate(term[1]):
            self.same(mine[name][1], self.look(function, place + (at,), {**env, **mine}))
        entries = {name: self.general(mine[name][1], env) for name in names}
        self.same(own, self.look(term[2], place + (len(names),), {**env, **entries}))


def records_of(kind):
    """All records in a kind."""
    found = [kind] if kind[0] == "record" else []
    parts = [part for _, part in kind[1]] if kind[0] == "record" else kind[1] if kind[0] == "tuple" else (
        kind[2] if kind[0] == "of" else kind[1:] if kind[0] in ("to", "cell") else ())
    return found + [one for part in parts for one in records_of(part)]


def kinds_of(program, lot):
    """The most general kinds of all places by the rules of a lot, None if there are none."""
    try:
        return Kinds(program, lot).kinds
    except No:
        return None


def suits(declarations, pattern, kind, names):
    """Whether a pattern suits a kind; the names that it binds get their kinds."""
    if pattern[0] == "bind":
        names[pattern[1]] = kind
    if pattern[0] in ("any", "bind"):
        return True
    if pattern[0] == "make":
        for kind_name, many, rows in declarations:
            for maker, within in rows:
                if maker == pattern[1]:
                    if kind[0] != "of" or kind[1] != kind_name or len(kind[2]) != many:
                        return False
                    if pattern[2] is None:
                        return True
                    return within is not None and suits(
                        declarations, pattern[2], put(within, dict(enumerate(kind[2]))), names)
        return False
    if pattern[0] != kind[0]:
        return False
    if pattern[0] == "tuple":
        return len(pattern[1]) == len(kind[1]) and all(
            [suits(declarations, part, within, names) for part, within in zip(pattern[1], kind[1])])
    if pattern[0] == "record":
        return all([label in dict(kind[1]) and suits(declarations, part, dict(kind[1])[label], names)
                    for label, part in pattern[1]])
    return True


def comes_to(kind, other, lot):
    """Whether a kind comes to another one if kinds and rows are put in for some of its variables."""
    one = put(kind, {})
    sub = {}

    def go(one, other):
        if one[0] == "var":
            if one[1] not in lot:
                return one == other
            return sub.setdefault(one[1], other) == other
        if one[0] != other[0]:
            return False
        if one[0] == "record":
            fields, others = dict(one[1]), dict(other[1])
            if not set(fields) <= set(others) or not all([go(fields[label], others[label]) for label in fields]):
                return False
            more = tuple((label, part) for label, part in other[1] if label not in fields)
            if one[2] is not None and one[2][1] in lot:
                return sub.setdefault(one[2][1], (more, other[2])) == (more, other[2])
            return not more and one[2] == other[2]
        if one[0] == "of" and one[1] != other[1]:
            return False
        parts = lambda kind: kind[1] if kind[0] == "tuple" else kind[2] if kind[0] == "of" else kind[1:]
        return len(parts(one)) == len(parts(other)) and all([go(a, b) for a, b in zip(parts(one), parts(other))])

    return go(one, other)


class PlainJudge:
    """The rules, each told from the document's words."""

    def __init__(self, program, lot, kinds, general):
        self.declarations, self.term = program
        self.lot, self.kinds, self.general = lot, kinds, general

    def binder(self, name, place):
        """The place of the term that binds a name at a place, and the number of the part in which that is."""
        for depth in range(len(place) - 1, -1, -1):
            around = part_at(self.term, place[:depth])
            if name in bound_at(around, (place[depth],)):
                return place[:depth], place[depth]
        raise AssertionError(name)

    def of_name(self, name, place):
        """The kind of a name at a place, None if it has none, and the variables that are general for it there."""
        at, way = self.binder(name, place)
        around = part_at(self.term, at)
        if around[0] == "fn":
            return (self.kinds[at][1] if self.kinds[at][0] == "to" else None), ()
        if around[0] == "match":
            names = {}
            right = suits(self.declarations, around[2][way - 1][0], self.kinds[at + (0,)], names)
            return (names[name] if right else None), ()
        if around[0] == "let":
            return self.kinds[at + (0,)], self.general.get(at, ())
        index = [other for other, _ in around[1]].index(name)
        return self.kinds[at + (index,)], (self.general[at] if way == len(around[1]) else ())

    def outer(self, place, ones, apart):
        """The variables that stand in outer kinds."""
        found = set()
        for index, one in ones:
            for name in free_names(one):
                if name not in apart and self.binder(name, place + (index,))[0] in self.lot:
                    kind, general = self.of_name(name, place + (index,))
                    found |= set(variables(kind) if kind else []) - set(general)
        return found

    def holds(self, place):
        term = part_at(self.term, place)
        own = self.kinds[place]
        part = [self.kinds[place + (index,)] for index in range(len(parts_of(term)))]
        head = term[0]
        if head in ("num", "truth"):
            return own == (head,)
        if head == "name":
            at, _ = self.binder(term[1], place)
            if at not in self.lot:
                return True
            kind, general = self.of_name(term[1], place)
            return kind is not None and comes_to(kind, own, general)
        if head == "fn":
            return own[0] == "to" and own[2] == part[0]
        if head == "call":
            return part[0] == ("to", part[1], own)
        if head == "let":
            if own != part[1]:
                return False
            return not is_settled(term[2]) or not self.outer(place, [(0, term[2])], ()) & set(self.general[place])
        if head == "rec":
            names = [name for name, _ in term[1]]
            ones = [(index, one) for index, (_, one) in enumerate(term[1])]
            return own == part[-1] and not self.outer(place, ones, names) & set(self.general[place])
        if head == "if":
            return part[0] == TRUTH and own == part[1] == part[2]
        if head == "tuple":
            return own == ("tuple", tuple(part))
        if head == "record":
            return own == ("record", tuple((label, kind) for (label, _), kind in zip(term[1], part)), None)
        if head == "field":
            return part[0][0] == "record" and dict(part[0][1]).get(term[2]) == own
        if head == "make":
            for kind_name, many, rows in self.declarations:
                if term[1] in dict(rows):
                    if own[0] != "of" or own[1] != kind_name or len(own[2]) != many:
                        return False
                    within = dict(rows)[term[1]]
                    return within is None or part[0] == put(within, dict(enumerate(own[2])))
        if head == "match":
            return all([suits(self.declarations, pattern, part[0], {}) for pattern, _ in term[2]]) and all(
                [own == body for body in part[1:]])
        if head == "new":
            return own == ("cell", part[0])
        if head == "get":
            return part[0] == ("cell", own)
        if head == "put":
            return part[0] == ("cell", part[1]) and own == UNIT
        if head == "op":
            return part == [NUM, NUM] and own == (TRUTH if term[1] in "<=" else NUM)
        return part == [NUM] and own == UNIT


def broken(program, lot, thing):
    """The places of a lot whose rule does not hold, ascending."""
    judge = PlainJudge(program, lot, thing[0], thing[1])
    return [place for place in places_of(program[1]) if place in lot and not judge.holds(place)]


def shared_places(program, lot):
    """The places of a lot at which variables are general."""
    found = []
    for place in lot:
        term = part_at(program[1], place)
        if term[0] == "rec" or (term[0] == "let" and is_settled(term[2])):
            found.append(place)
    return found
