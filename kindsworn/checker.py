"""The checker: most general derivations, the schemes of programs, and the plain way of a let."""

from kindsworn.derivations import Outline, makers_told, numbered, same_kinds
from kindsworn.errors import TooGreat, TooMany
from kindsworn.forms import MOST_PARTS
from kindsworn.schemes import Fitting, scheme_of
from kindsworn.trees import free_names, is_settled, parts_of, places_of, plain_names, with_parts
from kindsworn.unify import Graph, is_too_great, written

MOST_PLACES = 2000


class Copying(Graph):
    """A graph in which kinds are copied, while no part of a copy is made before somebody looks at it.

    A model is a kind that does not change any more, but for the leaves that it keeps, variables most of them; a copy
    has new ones for its others, and shares what has no leaves. models: tuples of a root, of a dict from its nodes
    to their heads, parts and leaves, and of the lists of the leaves that are kept, and of the others, each behind
    those in it. The head of a copy is ("fresh", number of the model), its parts stand for what is kept; that of a part
    of a copy ("copy", number of the model, node), its parts stand for the leaves of the node. A fresh copy is itself
    a leaf. begun: a dict from numbers of models, nodes and what stands for their leaves to the parts of copies.
    """

    def __init__(self):
        Graph.__init__(self)
        self.models = []
        self.begun = {}

    def model(self, order, fixed):
        """The number of a new model, whose nodes are told in order, each behind its parts; the last one is the root.

        It keeps the leaves that a dict has as keys.
        """
        known = {}
        kept = []
        others = []
        for node in order:
            head = self.heads[node]
            parts = self.parts_at(node)
            leaves = {leaf: True for part in parts if part in known for leaf in known[part][2]}
            if head is None or head[0] == "fresh":
                leaves[node] = True
                if node in fixed:
                    kept.append(node)
                else:
                    others.append(node)
            if len(leaves) > 0:
                known[node] = (head, parts, tuple(list(leaves)))
        self.models.append((order[-1], known, kept, others))
        return len(self.models) - 1

    def copied(self, number):
        """A node for a copy of a model; its root itself if nothing in it would be new."""
        root, known, kept, others = self.models[number]
        if len(others) == 0:
            return root
        return self.variable() if known[root][0] is None else self.make(("fresh", number), kept)

    def part_copied(self, number, node, env):
        """A node for the copy of a part of a model; env has what stands for leaves."""
        if node in env:
            return env[node]
        _, known, _, _ = self.models[number]
        if node not in known:
            return node
        given = tuple([env[leaf] for leaf in known[node][2]])
        if given == known[node][2]:
            return node
        if (number, node, given) not in self.begun:
            self.begun[(number, node, given)] = self.make(("copy", number, node), given)
        return self.begun[(number, node, given)]

    def with_new_leaves(self, number, given):
        """The dict from the leaves of a model to what stands for them: something given for those that are kept."""
        _, known, kept, others = self.models[number]
        env = dict(zip(kept, given))
        for leaf in others:
            head, parts, _ = known[leaf]
            env[leaf] = self.make(head, [self.part_copied(number, part, env) for part in parts])
        return env

    def unfold(self, node):
        """Gives a copy, or a part of one, the head of what it is a copy of, and copies of its parts."""
        while self.heads[node] is not None and self.heads[node][0] in ("fresh", "copy"):
            number = self.heads[node][1]
            root, known, _, _ = self.models[number]
            if self.heads[node][0] == "fresh":
                original = root
                env = self.with_new_leaves(number, self.insides[node])
            else:
                original = self.heads[node][2]
                env = dict(zip(known[original][2], self.insides[node]))
            head, parts, _ = known[original]
            self.heads[node] = head
            self.insides[node] = tuple([self.part_copied(number, part, env) for part in parts])

    def unfold_all(self, node):
        """Does so with all that is in a copy."""
        todo = [node]
        while len(todo) > 0:
            one = self.top(todo.pop())
            if self.heads[one] is not None and self.heads[one][0] in ("fresh", "copy"):
                self.unfold(one)
                todo.extend(self.insides[one])


class Solver:
    """The kinds of all places of a program, as the RULES of a lot want them.

    kinds: the node of the kind at each place, by its index. named: from tuples of the index of a fn or a match, the
    part in which a name stands, and the name to nodes. models: from the indexes of all parts whose kinds may have
    other instances to the numbers of models of these; is_eager tells whether each instance is looked into at once,
    so that in the end there are no copies. order: all nodes, each behind its parts; None if the lot has no DERIVATION.
    """

    def __init__(self, declarations, outline, lot, is_eager):
        self.told = makers_told(declarations)
        self.outline = outline
        self.lot = {place: True for place in lot}
        self.is_eager = is_eager
        self.graph = Copying()
        self.kinds = [self.graph.variable() for _ in outline.places]
        self.named = {}
        self.models = {}
        self.order = self.graph.ordered(self.kinds) if self.solve() else None

    def is_ruled(self, index):
        """Whether a place is one of the lot."""
        return self.outline.places[index] in self.lot

    def solve(self):
        """Does what the RULES of the lot want; tells whether this goes, but for rings."""
        behind = {self.outline.parts[index][-1]: index for index in self.outline.shared if self.is_ruled(index)}
        for index in range(len(self.kinds)):
            # All that is in the one of a let, or in a group, is done when its rest begins.
            if index in behind and not self.share(behind[index]):
                return False
            if self.is_ruled(index) and not self.rule(index):
                return False
        return True

    def rule(self, index):
        """Does what the RULE of a place wants; tells whether this goes."""
        parts = [self.kinds[part] for part in self.outline.parts[index]]
        pairs = same_kinds(self.outline.terms[index], self.kinds[index], parts, self.graph)
        pairs.extend(self.own_pairs(index, self.outline.terms[index], parts))
        for one, other in pairs:
            if not self.graph.merge(one, other):
                return False
        return True

    def own_pairs(self, index, term, parts):
        """The pairs that have to be the same by the RULE of a term, but for those that same_kinds tells."""
        own = self.kinds[index]
        if term[0] == "name":
            binder = self.outline.binders[index]
            return [(own, self.kind_named(term[1], binder))] if self.is_ruled(binder[0]) else []
        if term[0] == "fn":
            self.named[(index, 0, term[1])] = self.graph.variable()
            return [(own, self.graph.make(("to",), (self.named[(index, 0, term[1])], parts[0])))]
        if term[0] == "field":
            return [(parts[0], self.graph.record_before([term[2]], [own], self.graph.variable()))]
        if term[0] == "make":
            made, within = self.making(term[1])
            return [(own, made)] + [(part, within) for part in parts]
        pairs = []
        if term[0] == "match":
            for row in range(len(term[2])):
                pairs.append((parts[0], self.pattern_node(term[2][row][0], (index, row + 1), pairs)))
        return pairs

    def making(self, maker):
        """A node for what a maker makes, and one for what it makes this of, None if of nothing."""
        name, many, kind = self.told[maker]
        given = [self.graph.variable() for _ in range(many)]
        within = None if kind is None else self.graph.built(kind, numbered(given))
        return (self.graph.make(("of", name), given), within)

    def pattern_node(self, pattern, around, pairs):
        """A node for the kinds that a pattern SUITS; what has to be the same for this comes behind pairs.

        The names that it binds are noted with the index of the match, and the part of it, that around tells.
        """
        if pattern[0] in ("num", "truth"):
            return self.graph.make((pattern[0],), ())
        if pattern[0] == "tuple":
            return self.graph.make(("tuple",), [self.pattern_node(part, around, pairs) for part in pattern[1]])
        if pattern[0] == "record":
            parts = [self.pattern_node(part, around, pairs) for _, part in pattern[1]]
            return self.graph.record_before([label for label, _ in pattern[1]], parts, self.graph.variable())
        if pattern[0] == "make":
            made, within = self.making(pattern[1])
            if pattern[2] is not None:
                pairs.append((within, self.pattern_node(pattern[2], around, pairs)))
            return made
        node = self.graph.variable()
        if pattern[0] == "bind":
            self.named[around + (pattern[1],)] = node
        return node

    def kind_named(self, name, binder):
        """The node of the kind that a name has at a place where it stands."""
        one, way = binder
        if (one, way, name) in self.named:
            return self.named[(one, way, name)]
        part = self.outline.group_part(one, name)
        if not self.outline.is_spread(binder):
            return self.kinds[part]
        node = self.graph.copied(self.models[part])
        if self.is_eager:
            self.graph.unfold_all(node)
        return node

    def outer_nodes(self, index):
        """Nodes in which all variables stand that must not be GENERAL at a place."""
        outer = self.outline.outer[index]
        # Another instance of a kind has no variable in common with it but those that are not GENERAL there.
        return [self.kind_named(name, outer[name]) for name in outer if self.is_ruled(outer[name][0])]

    def share(self, index):
        """Makes models of the kinds that have other instances at a let or a rec; tells whether there is no ring."""
        outer = self.graph.ordered(self.outer_nodes(index))
        if outer is None:
            return False
        fixed = {node: True for node in outer}
        for part in self.outline.shared[index]:
            order = self.graph.ordered([self.kinds[part]])
            if order is None:
                return False
            self.models[part] = self.graph.model(order, fixed)
        return True

    def general_at(self, index, integers):
        """The ascending tuple of the variables that are GENERAL at a place."""
        found = {}
        for part in self.outline.shared[index]:
            _, _, _, others = self.graph.models[self.models[part]]
            found.update({integers[node]: True for node in others})
        return tuple(sorted(found))


def is_solvable(declarations, outline, lot):
    """Whether a lot of a program with these declarations, and such a term, has a DERIVATION, however great."""
    return Solver(declarations, outline, lot, False).order is not None


def has_derivation(program, lot):
    """Whether a lot has a DERIVATION, however great."""
    return is_solvable(program[0], Outline(program[1]), lot)


def derivation_of(program, lot):
    """A DERIVATION of a lot that is MOST GENERAL, None if the lot has none."""
    outline = Outline(program[1])
    solver = Solver(program[0], outline, lot, False)
    if solver.order is None:
        return None
    tops = {solver.graph.top(node): True for node in solver.kinds}
    if any([is_too_great(solver.graph, top) for top in tops]):
        raise TooGreat(MOST_PARTS)
    # As no kind is too great, all of them can be looked into.
    return derivation_told(outline, Solver(program[0], outline, lot, True))


def derivation_told(outline, solver):
    """The DERIVATION that an eager solver has found, no kind in which is too great."""
    graph = solver.graph
    variables = [node for node in solver.order if graph.heads[node] is None]
    integers = {node: at for at, node in enumerate(variables)}
    made = written(graph, solver.order, integers)
    kinds = {place: made[graph.top(node)] for place, node in zip(outline.places, solver.kinds)}
    ruled = [index for index in sorted(outline.shared) if solver.is_ruled(index)]
    return (kinds, {outline.places[index]: solver.general_at(index, integers) for index in ruled})


def scheme_of_program(program):
    """The SCHEME of a program, None if it has no kind."""
    derivation = derivation_of(program, places_of(program[1]))
    return None if derivation is None else scheme_of(derivation[0][()])


def has_scheme(program, scheme):
    """Whether all instances of a SCHEME are kinds that a program can have."""
    outline = Outline(program[1])
    solver = Solver(program[0], outline, outline.places, False)
    return solver.order is not None and Fitting(solver.graph).fits(solver.kinds[0], scheme[1])


def many_spread(term, sizes):
    """How many places a term has when it is spread out; sizes has how many those have that stand for names."""
    if term[0] == "name":
        return sizes.get(term[1], 1)
    if term[0] == "let" and is_settled(term[2]):
        one = many_spread(term[2], sizes)
        if term[1] in free_names(term[3]):
            return many_spread(term[3], {**sizes, term[1]: one})
        return 3 + one + many_spread(term[3], sizes)
    return 1 + sum([many_spread(part, sizes) for part in parts_of(term)])


def spread_term(term, ones):
    """A term, no name of which is bound twice, spread out; ones has the terms that stand for names."""
    if term[0] == "name":
        return ones.get(term[1], term)
    if term[0] == "let":
        return spread_let(term, ones)
    return with_parts(term, [spread_term(part, ones) for part in parts_of(term)])


def spread_let(term, ones):
    """What spread_term tells of a let."""
    _, name, one, rest = term
    spread = spread_term(one, ones)
    if not is_settled(one):
        behind = spread_term(rest, ones)
        return ("match", spread, ((("bind", name), behind),)) if is_settled(spread) else ("let", name, spread, behind)
    if name in free_names(rest):
        return spread_term(rest, {**ones, name: spread})
    last = ("tuple", (("any",), ("bind", "x")))
    return ("match", ("tuple", (spread, spread_term(rest, ones))), ((last, ("name", "x")),))


def spread_out(program):
    """The program without a let whose one is SETTLED, each name of which stands for a copy of it."""
    # As each name is bound once, nothing that is free in a copy can be bound where it stands.
    term = plain_names(program[1])
    if many_spread(term, {}) > MOST_PLACES:
        raise TooMany(MOST_PLACES)
    return (program[0], spread_term(term, {}))
