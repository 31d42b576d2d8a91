"""What the document says of names, kinds, patterns, terms, programs and modules, told once more, plainly."""

import re

BARRED = "module use give kind let rec and in fn if then else match with end new get put tell true false".split()


class No(Exception):
    """A thing is not what it should be."""


def must(holds):
    if not holds:
        raise No()


def holds(ask):
    """A function that tells whether the other one does not say No."""
    def told(thing):
        try:
            ask(thing)
        except No:
            return False
        return True
    return told


def small(thing):
    must(isinstance(thing, str) and re.fullmatch("[a-z][a-zA-Z0-9_]{0,19}", thing) and thing not in BARRED)


def great(thing):
    must(isinstance(thing, str) and re.fullmatch("[A-Z][a-zA-Z0-9_]{0,19}", thing))


def name(thing):
    must(isinstance(thing, str))
    if "." in thing:
        great(thing[:thing.index(".")])
        thing = thing[thing.index(".") + 1:]
    small(thing)


def maker(thing):
    must(isinstance(thing, str))
    if "." in thing:
        great(thing[:thing.index(".")])
        thing = thing[thing.index(".") + 1:]
    great(thing)


def natural(thing):
    must(type(thing) is int and thing >= 0)


def number(thing):
    must(type(thing) is int and -2 ** 31 <= thing < 2 ** 31)


def tuple_of(thing, many=None):
    must(type(thing) is tuple and (many is None or len(thing) == many))


def fields(thing, ask):
    tuple_of(thing)
    for pair in thing:
        tuple_of(pair, 2)
        small(pair[0])
        ask(pair[1])
    labels = [pair[0] for pair in thing]
    must(labels == sorted(set(labels)))


def headed(thing, heads):
    tuple_of(thing)
    must(len(thing) > 0 and type(thing[0]) is str and thing[0] in heads)
    must(len(thing) == 1 + heads[thing[0]])


def several(thing, ask):
    tuple_of(thing)
    must(len(thing) != 1)
    for one in thing:
        ask(one)


class KindLook:
    def __init__(self):
        self.parts = 0
        self.order = []
        self.rests = {}
        self.others = set()
        self.applied = []

    def look(self, thing, depth):
        headed(thing, {"num": 0, "truth": 0, "to": 2, "tuple": 1, "record": 2, "cell": 1, "of": 2, "var": 1})
        self.parts += 1
        must(depth <= 100)
        below = lambda other: self.look(other, depth + 1)
        if thing[0] in ("to", "cell"):
            for part in thing[1:]:
                below(part)
        elif thing[0] == "tuple":
            several(thing[1], below)
        elif thing[0] == "of":
            maker(thing[1])
            tuple_of(thing[2])
            for part in thing[2]:
                below(part)
            self.applied.append((thing[1], len(thing[2])))
        elif thing[0] == "var":
            natural(thing[1])
            self.order.append(thing[1])
            self.others.add(thing[1])
        elif thing[0] == "record":
            fields(thing[1], below)
            if thing[2] is not None:
                tuple_of(thing[2], 2)
                must(thing[2][0] == "var")
                natural(thing[2][1])
                self.order.append(thing[2][1])
                self.rests.setdefault(thing[2][1], set()).add(tuple(label for label, _ in thing[1]))


def looked(thing):
    look = KindLook()
    look.look(thing, 1)
    must(look.parts <= 2000)
    must(not look.others & set(look.rests))
    must(all(len(labels) == 1 for labels in look.rests.values()))
    return look


def kind(thing):
    looked(thing)


def scheme(thing):
    tuple_of(thing, 2)
    natural(thing[0])
    order = []
    for index in looked(thing[1]).order:
        if index not in order:
            order.append(index)
    must(order == list(range(len(order))) and len(order) == thing[0])


def declaration(thing):
    tuple_of(thing, 3)
    maker(thing[0])
    natural(thing[1])
    tuple_of(thing[2])
    must(len(thing[2]) > 0)
    for row in thing[2]:
        tuple_of(row, 2)
        maker(row[0])
        if row[1] is not None:
            look = looked(row[1])
            must(not look.rests and all(index < thing[1] for index in look.others))


def value_of(rows, kind, room):
    """Whether a kind has values by steps, no more than room of them one within the other."""
    if kind[0] in ("num", "truth", "to", "var"):
        return True
    if kind[0] == "of":
        if room == 0:
            return False
        put = lambda k: k if k[0] in ("num", "truth") else kind[2][k[1]] if k[0] == "var" else (
            ("to", put(k[1]), put(k[2])) if k[0] == "to" else
            ("tuple", tuple(put(x) for x in k[1])) if k[0] == "tuple" else
            ("record", tuple((label, put(x)) for label, x in k[1]), k[2]) if k[0] == "record" else
            ("cell", put(k[1])) if k[0] == "cell" else ("of", k[1], tuple(put(x) for x in k[2])))
        makers = [row for other in rows if other[0] == kind[1] for row in other[2]]
        return any(row[1] is None or value_of(rows, put(row[1]), room - 1) for row in makers)
    parts = {"tuple": lambda: kind[1], "cell": lambda: kind[1:], "record": lambda: [x for _, x in kind[1]]}
    return all(value_of(rows, part, room) for part in parts[kind[0]]())


def declarations(thing):
    tuple_of(thing)
    for one in thing:
        declaration(one)
    names = [one[0] for one in thing]
    makers = [row[0] for one in thing for row in one[2]]
    must(len(set(names)) == len(names) and len(set(makers)) == len(makers))
    takes = {one[0]: one[1] for one in thing}
    for one in thing:
        for _, within in one[2]:
            if within is not None:
                for applied, many in looked(within).applied:
                    must(takes.get(applied) == many)
    for one in thing:
        must(value_of(thing, ("of", one[0], tuple(("var", i) for i in range(min(one[1], 9)))), 2 * len(thing) + 2))


def pattern(thing):
    bound = []

    def look(thing):
        headed(thing, {"any": 0, "bind": 1, "num": 1, "truth": 1, "tuple": 1, "record": 1, "make": 2})
        if thing[0] == "bind":
            small(thing[1])
            bound.append(thing[1])
        elif thing[0] == "num":
            number(thing[1])
        elif thing[0] == "truth":
            must(type(thing[1]) is bool)
        elif thing[0] == "tuple":
            several(thing[1], look)
        elif thing[0] == "record":
            fields(thing[1], look)
            must(len(thing[1]) > 0)
        elif thing[0] == "make":
            maker(thing[1])
            if thing[2] is not None:
                look(thing[2])

    look(thing)
    must(len(set(bound)) == len(bound))
    return bound


TERM_HEADS = {"num": 1, "truth": 1, "name": 1, "fn": 2, "call": 2, "let": 3, "rec": 2, "if": 3, "tuple": 1,
              "record": 1, "field": 2, "make": 2, "match": 2, "new": 1, "get": 1, "put": 2, "op": 3, "tell": 1}


def group(thing, binds, ask):
    tuple_of(thing)
    must(len(thing) > 0)
    for pair in thing:
        tuple_of(pair, 2)
        binds(pair[0])
        ask(pair[1])
        must(pair[1][0] == "fn")
    must(len({pair[0] for pair in thing}) == len(thing))


def term(thing, binds=name):
    headed(thing, TERM_HEADS)
    head = thing[0]
    below = lambda other: term(other, binds)
    if head == "num":
        number(thing[1])
    elif head == "truth":
        must(type(thing[1]) is bool)
    elif head == "name":
        name(thing[1])
    elif head == "fn":
        small(thing[1])
        below(thing[2])
    elif head == "let":
        binds(thing[1])
        below(thing[2])
        below(thing[3])
    elif head == "rec":
        group(thing[1], binds, below)
        below(thing[2])
    elif head == "tuple":
        several(thing[1], below)
    elif head == "record":
        fields(thing[1], below)
        must(len(thing[1]) > 0)
    elif head == "field":
        below(thing[1])
        small(thing[2])
    elif head == "make":
        maker(thing[1])
        if thing[2] is not None:
            below(thing[2])
    elif head == "match":
        below(thing[1])
        tuple_of(thing[2])
        must(len(thing[2]) > 0)
        for row in thing[2]:
            tuple_of(row, 2)
            pattern(row[0])
            below(row[1])
    elif head == "op":
        must(type(thing[1]) is str and thing[1] in list("+-*<="))
        below(thing[2])
        below(thing[3])
    else:
        for part in thing[1:]:
            below(part)


def makers_fit(thing, takes):
    """All makers in a term or pattern that is one stand as they are declared."""
    if thing[0] == "make":
        must(thing[1] in takes and takes[thing[1]] == (thing[2] is not None))
    for part in thing[1:]:
        if isinstance(part, tuple):
            deep_makers_fit(part, takes)


def deep_makers_fit(thing, takes):
    if thing and isinstance(thing[0], str) and len(thing) > 1 and thing[0] in TERM_HEADS and not (
            len(thing) == 2 and TERM_HEADS[thing[0]] != 1):
        makers_fit(thing, takes)
    else:
        for part in thing:
            if isinstance(part, tuple):
                deep_makers_fit(part, takes)


def free(thing):
    """The set of the names that are free in a term."""
    head = thing[0]
    if head == "name":
        return {thing[1]}
    if head in ("num", "truth"):
        return set()
    if head == "fn":
        return free(thing[2]) - {thing[1]}
    if head == "let":
        return free(thing[2]) | (free(thing[3]) - {thing[1]})
    if head == "rec":
        within = free(thing[2]).union(*[free(function) for _, function in thing[1]])
        return within - {one for one, _ in thing[1]}
    if head == "match":
        return free(thing[1]).union(*[free(body) - set(pattern(row)) for row, body in thing[2]])
    if head == "tuple":
        return set().union(*[free(part) for part in thing[1]])
    if head == "record":
        return set().union(*[free(part) for _, part in thing[1]])
    return set().union(*[free(part) for part in thing[1:] if isinstance(part, tuple)])


def program(thing):
    tuple_of(thing, 2)
    declarations(thing[0])
    term(thing[1])
    must(not free(thing[1]))
    makers_fit(thing[1], {row[0]: row[1] is not None for one in thing[0] for row in one[2]})


def item(thing):
    headed(thing, {"kind": 1, "let": 2, "rec": 1})
    if thing[0] == "kind":
        declaration(thing[1])
        great(thing[1][0])
        for row in thing[1][2]:
            great(row[0])
    elif thing[0] == "let":
        small(thing[1])
        term(thing[2], small)
    else:
        group(thing[1], small, lambda one: term(one, small))


def module(thing):
    tuple_of(thing, 4)
    great(thing[0])
    for part in thing[1:]:
        tuple_of(part)
    for use in thing[1]:
        great(use)
    must(len(set(thing[1])) == len(thing[1]) and thing[0] not in thing[1])
    for one in thing[2]:
        item(one)
    for give in thing[3]:
        tuple_of(give, 2)
        must(isinstance(give[0], str) and give[0] in ("value", "kind", "open"))
        (small if give[0] == "value" else great)(give[1])
    must(len(set(thing[3])) == len(thing[3]))
