"""What binds names, what patterns suit, and the rules of kinds that a derivation keeps to."""

from kindsworn.errors import TooGreat
from kindsworn.forms import MOST_PARTS, is_index, is_kind, is_place
from kindsworn.kinds import Shelf, are_fit, put_in, variables_in
from kindsworn.schemes import matched
from kindsworn.shapes import bound_by
from kindsworn.trees import is_settled, part_at, parts_of, places_of


def binder_of(term, place):
    """The place of the innermost term around that BINDS the name at a place, None if it is free."""
    name = part_at(term, place)[1]
    for depth in range(len(place) - 1, -1, -1):
        if name in bound_by(part_at(term, place[:depth]), place[depth]):
            return place[:depth]
    return None


def makers_told(declarations):
    """The dict from all makers to the tuples that maker_of tells."""
    return {maker: (name, many, kind) for name, many, rows in declarations for maker, kind in rows}


def maker_of(declarations, maker):
    """The kind name, the number of parameters, and the kind or None, of the DECLARATION in which a maker stands."""
    return makers_told(declarations)[maker]


def suited(told, shelf, pattern, number, found):
    """Whether a pattern SUITS a kind of a shelf; told is what makers_told tells.

    For the names that it binds, the numbers of the kinds that these suit are put into the dict found.
    """
    head = shelf.heads[number]
    parts = shelf.insides[number]
    if pattern[0] == "any":
        return True
    if pattern[0] == "bind":
        found[pattern[1]] = number
        return True
    if pattern[0] in ("num", "truth"):
        return head[0] == pattern[0]
    if pattern[0] == "make":
        if pattern[1] not in told:
            return False
        name, many, kind = told[pattern[1]]
        if head != ("of", name) or len(parts) != many:
            return False
        within = None if kind is None else shelf.built(kind, numbered(parts))
        rows = [] if pattern[2] is None else [(pattern[2], within)]
    elif pattern[0] == "tuple":
        if head[0] != "tuple" or len(parts) != len(pattern[1]):
            return False
        rows = list(zip(pattern[1], parts))
    else:
        fields = dict(zip(head[1], parts)) if head[0] == "record" else {}
        rows = [(part, fields.get(label)) for label, part in pattern[1]]
    for part, within in rows:
        if within is None or not suited(told, shelf, part, within, found):
            return False
    return True


def numbered(things):
    """The dict from 0, 1 and so on to things."""
    return dict(enumerate(things))


def pattern_kinds(declarations, pattern, kind):
    """The dict from the names that a pattern binds to the kinds that these suit, None if it does not SUIT a KIND."""
    shelf = Shelf()
    found = {}
    if not suited(makers_told(declarations), shelf, pattern, shelf.built(kind, {}), found):
        return None
    if any([shelf.is_too_great(number) for number in found.values()]):
        raise TooGreat(MOST_PARTS)
    return {name: shelf.written(found[name]) for name in sorted(found)}


class Outline:
    """The places of a term, ascending, and what is so at each one; others are told by their index among them.

    terms, parts: the term at a place, and the indexes of its parts. binders: for a name, the index of the term that
    binds it, and in which of its parts the name stands; None for all others. shared: for a rec, and for a let whose
    one is SETTLED, the indexes of the parts whose kinds may be GENERAL; outer: for these, the dict from the names
    that are free in such a part, and bound by no name of the group, to what binders tells of them.
    """

    def __init__(self, term):
        self.places = places_of(term)
        self.terms = []
        self.parts = []
        self.binders = []
        self.shared = {}
        self.outer = {}
        found = {place: index for index, place in enumerate(self.places)}
        around = {}
        for index, place in enumerate(self.places):
            one = term if place == () else parts_of(self.terms[found[place[:-1]]])[place[-1]]
            parts = [found[place + (part,)] for part in range(len(parts_of(one)))]
            self.terms.append(one)
            self.parts.append(parts)
            for way, part in enumerate(parts):
                around[part] = (index, way)
            if one[0] == "rec":
                self.shared[index] = parts[:-1]
            elif one[0] == "let" and is_settled(one[2]):
                self.shared[index] = parts[:1]
        for index in self.shared:
            self.outer[index] = {}
        for index, one in enumerate(self.terms):
            self.binders.append(self.bind(index, one[1], around) if one[0] == "name" else None)

    def bind(self, index, name, around):
        """What binders tells of the name at an index; it is noted among the outer ones of what stands between."""
        passed = []
        one, way = around[index]
        while name not in bound_by(self.terms[one], way):
            if one in self.shared and self.parts[one][way] in self.shared[one]:
                passed.append(one)
            one, way = around[one]
        for other in passed:
            self.outer[other][name] = (one, way)
        return (one, way)

    def is_spread(self, binder):
        """Whether a name that is so bound may have another instance wherever it stands."""
        one, way = binder
        return one in self.shared and self.parts[one][way] not in self.shared[one]

    def group_part(self, one, name):
        """The index of the part of a let or a rec for which its name stands."""
        if self.terms[one][0] == "let":
            return self.parts[one][0]
        return self.parts[one][[other for other, _ in self.terms[one][1]].index(name)]


def same_kinds(term, own, parts, builder):
    """The pairs of kinds that have to be the same by the RULE of a term, as far as it needs no kinds but these.

    own, parts: the kinds at its place and at its parts, as builder, a shelf or a graph, tells them.
    """
    head = term[0]
    unit = ("tuple",)
    if head in ("num", "truth"):
        return [(own, builder.make((head,), ()))]
    if head == "call":
        return [(parts[0], builder.make(("to",), (parts[1], own)))]
    if head in ("let", "rec"):
        return [(own, parts[-1])]
    if head == "if":
        return [(parts[0], builder.make(("truth",), ())), (own, parts[1]), (own, parts[2])]
    if head == "tuple":
        return [(own, builder.make(unit, parts))]
    if head == "record":
        return [(own, builder.record([label for label, _ in term[1]], parts))]
    if head == "match":
        return [(own, body) for body in parts[1:]]
    if head == "new":
        return [(own, builder.make(("cell",), parts))]
    if head == "get":
        return [(parts[0], builder.make(("cell",), (own,)))]
    if head == "put":
        return [(parts[0], builder.make(("cell",), parts[1:])), (own, builder.make(unit, ()))]
    if head == "op":
        told = builder.make(("truth",) if term[1] in ("<", "=") else ("num",), ())
        return [(own, told)] + [(part, builder.make(("num",), ())) for part in parts]
    if head == "tell":
        return [(parts[0], builder.make(("num",), ())), (own, builder.make(unit, ()))]
    return []


class Judge:
    """Looks at which RULES hold for kinds that all places of a program have."""

    def __init__(self, program, lot, kinds, general):
        self.told = makers_told(program[0])
        self.outline = Outline(program[1])
        self.lot = {place: True for place in lot}
        self.kinds = [kinds[place] for place in self.outline.places]
        self.general = general
        self.shelf = Shelf()
        self.numbers = [self.shelf.built(kind, {}) for kind in self.kinds]
        self.row_kinds = {}

    def is_ruled(self, index):
        """Whether a place is one of the lot."""
        return self.outline.places[index] in self.lot

    def bound_in_row(self, one, way):
        """The dict from the names of a row of a match to numbers of kinds; {} if its pattern does not suit."""
        if (one, way) not in self.row_kinds:
            found = {}
            pattern = self.outline.terms[one][2][way - 1][0]
            is_right = suited(self.told, self.shelf, pattern, self.numbers[self.outline.parts[one][0]], found)
            self.row_kinds[(one, way)] = found if is_right else {}
        return self.row_kinds[(one, way)]

    def kind_named(self, name, binder):
        """The number of the kind that a name has, None if it has none."""
        one, way = binder
        head = self.outline.terms[one][0]
        if head == "fn":
            number = self.numbers[one]
            return self.shelf.insides[number][0] if self.shelf.heads[number] == ("to",) else None
        if head == "match":
            return self.bound_in_row(one, way).get(name)
        return self.numbers[self.outline.group_part(one, name)]

    def name_holds(self, index):
        """Whether the RULE of a name holds."""
        name = self.outline.terms[index][1]
        binder = self.outline.binders[index]
        if not self.is_ruled(binder[0]):
            return True
        if not self.outline.is_spread(binder):
            return self.kind_named(name, binder) == self.numbers[index]
        one = self.kinds[self.outline.group_part(binder[0], name)]
        return matched(one, self.kinds[index], self.general[self.outline.places[binder[0]]]) is not None

    def outer_holds(self, index):
        """Whether no variable that is GENERAL at a let, or a rec, stands in an OUTER kind."""
        own = self.general[self.outline.places[index]]
        for name, binder in self.outline.outer[index].items():
            number = self.kind_named(name, binder) if self.is_ruled(binder[0]) else None
            if number is not None:
                others = self.general[self.outline.places[binder[0]]] if self.outline.is_spread(binder) else ()
                met = self.shelf.variables_at(number)
                if len([one for one in own if one in met and one not in others]) > 0:
                    return False
        return True

    def make_holds(self, index):
        """Whether the RULE of a make holds."""
        name, many, kind = self.told[self.outline.terms[index][1]]
        parts = self.shelf.insides[self.numbers[index]]
        if self.shelf.heads[self.numbers[index]] != ("of", name) or len(parts) != many:
            return False
        within = [self.numbers[part] for part in self.outline.parts[index]]
        return within == ([] if kind is None else [self.shelf.built(kind, numbered(parts))])

    def own_holds(self, index):
        """Whether that part of the RULE holds for which same_kinds does not tell all."""
        term = self.outline.terms[index]
        if term[0] == "name":
            return self.name_holds(index)
        if term[0] in ("let", "rec"):
            return index not in self.outline.shared or self.outer_holds(index)
        if term[0] == "make":
            return self.make_holds(index)
        if term[0] == "fn":
            number = self.numbers[index]
            body = self.numbers[self.outline.parts[index][0]]
            return self.shelf.heads[number] == ("to",) and self.shelf.insides[number][1] == body
        if term[0] == "field":
            number = self.numbers[self.outline.parts[index][0]]
            head = self.shelf.heads[number]
            fields = dict(zip(head[1], self.shelf.insides[number])) if head[0] == "record" else {}
            return fields.get(term[2]) == self.numbers[index]
        if term[0] == "match":
            number = self.numbers[self.outline.parts[index][0]]
            return all([suited(self.told, self.shelf, pattern, number, {}) for pattern, _ in term[2]])
        return True

    def rule_holds(self, index):
        """Whether the RULE of a place holds."""
        parts = [self.numbers[part] for part in self.outline.parts[index]]
        pairs = same_kinds(self.outline.terms[index], self.numbers[index], parts, self.shelf)
        return all([one == other for one, other in pairs]) and self.own_holds(index)


def broken_rules(program, lot, thing):
    """The places of a lot, ascending, whose RULE does not hold for a thing formed like a DERIVATION."""
    judge = Judge(program, lot, thing[0], thing[1])
    places = judge.outline.places
    return [place for index, place in enumerate(places) if judge.is_ruled(index) and not judge.rule_holds(index)]


def are_variables(thing, met):
    """Whether a thing is an ascending tuple of variables that a dict has as keys."""
    if not isinstance(thing, tuple) or not all([is_index(index) and index in met for index in thing]):
        return False
    return all([thing[at] < thing[at + 1] for at in range(len(thing) - 1)])


def are_at(thing, places):
    """Whether a thing is a dict whose keys are just these places."""
    if not isinstance(thing, dict) or len(thing) != len(places):
        return False
    return all([is_place(place) for place in thing]) and all([place in thing for place in places])


def is_formed_derivation(program, lot, thing):
    """Whether a thing is formed like a DERIVATION of a lot, whatever RULES hold."""
    if not isinstance(thing, tuple) or len(thing) != 2 or not are_at(thing[0], places_of(program[1])):
        return False
    kinds, general = thing
    if not all([is_kind(kind) for kind in kinds.values()]) or not are_fit(list(kinds.values())):
        return False
    outline = Outline(program[1])
    if not are_at(general, [outline.places[index] for index in outline.shared if outline.places[index] in lot]):
        return False
    met = {index: True for kind in kinds.values() for index in variables_in(kind)}
    return all([are_variables(some, met) for some in general.values()])


def is_derivation(program, lot, thing):
    """Whether a thing, any value, is a DERIVATION of a lot."""
    return is_formed_derivation(program, lot, thing) and broken_rules(program, lot, thing) == []


def specialised(thing, sub):
    """The DERIVATION in whose kinds a SUBSTITUTION is put."""
    kinds, general = thing
    more = {place: put_in(kinds[place], sub) for place in sorted(kinds)}
    return (more, {place: general[place] for place in sorted(general)})
