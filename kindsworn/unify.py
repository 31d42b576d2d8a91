"""Kinds made the same."""

from kindsworn.errors import TooGreat
from kindsworn.forms import DEEPEST_KIND, MOST_PARTS
from kindsworn.kinds import Shelf, is_substitution
from kindsworn.shapes import inner, variable_uses


class Graph:
    """Kinds, however great, that are made the same step by step; each is told by a number, its node.

    A node has a head and parts, which are nodes. A variable, or a rest, of which nothing is known has the head
    None. A record has one part, its row. The head of a row is ("row", labels): it has a part for each label, and
    behind these the row of all other fields; or it is ("end",), without any fields.
    """

    def __init__(self):
        self.links = []
        self.heads = []
        self.insides = []

    def make(self, head, parts):
        """A new node with this head and these parts."""
        self.links.append(len(self.links))
        self.heads.append(head)
        self.insides.append(tuple(parts))
        return len(self.links) - 1

    def variable(self):
        """A new variable, or rest."""
        return self.make(None, ())

    def record(self, labels, parts):
        """A new record that has these parts under ascending labels, and no others."""
        return self.record_before(labels, parts, self.make(("end",), ()))

    def record_before(self, labels, parts, rest):
        """A new record that has these parts under these labels, and those of the row rest."""
        return self.make(("record",), (self.make(("row", tuple(labels)), list(parts) + [rest]),))

    def built(self, kind, env):
        """A node for a KIND, in which the nodes that a dict has for all variables stand in their place."""
        if kind[0] == "var":
            return env[kind[1]]
        parts = []
        for part in inner("kind", kind):
            parts.append(self.built(part, env))
        if kind[0] == "record":
            labels = [label for label, _ in kind[1]]
            return self.record(labels, parts) if kind[2] is None else self.record_before(labels, parts, env[kind[2][1]])
        return self.make(("of", kind[1]) if kind[0] == "of" else (kind[0],), parts)

    def top(self, node):
        """The node by which all that have become the same as this one are told."""
        while self.links[node] != node:
            self.links[node] = self.links[self.links[node]]
            node = self.links[node]
        return node

    def unfold(self, node):
        """Makes head and parts of a node known; here they are. (What makes a part not before it is asked for, does.)"""

    def parts_at(self, node):
        """The nodes by which the parts of a node are told."""
        return [self.top(part) for part in self.insides[node]]

    def flat(self, row):
        """A dict from the labels of a row to nodes, and the node behind all of them: an end, or a rest."""
        fields = {}
        last = self.top(row)
        self.unfold(last)
        while self.heads[last] is not None and self.heads[last][0] == "row":
            for label, part in zip(self.heads[last][1], self.insides[last]):
                fields[label] = part
            last = self.top(self.insides[last][-1])
            self.unfold(last)
        return (fields, last)

    def merge(self, one, other):
        """Makes two nodes, and all that follows, the same; tells whether this goes, but for rings."""
        todo = [(one, other)]
        while len(todo) > 0:
            first, second = todo.pop()
            # The lower one, made earlier, stays where both are variables: so none that is new stands for an old one.
            low, high = sorted([self.top(first), self.top(second)])
            if low == high:
                continue
            if self.heads[low] is None and self.heads[high] is not None:
                self.links[low] = high
                continue
            if self.heads[high] is not None and not self.meet_parts(low, high, todo):
                return False
            self.links[high] = low
        return True

    def meet_parts(self, one, other, todo):
        """Tells whether two nodes that are no variables begin alike; what in them has to be the same is put to do."""
        if self.heads[one] != self.heads[other]:
            self.unfold(one)
            self.unfold(other)
        if self.heads[one][0] in ("row", "end") and self.heads[other][0] in ("row", "end"):
            return self.meet_rows(one, other, todo)
        if self.heads[one] != self.heads[other] or len(self.insides[one]) != len(self.insides[other]):
            return False
        todo.extend(list(zip(self.insides[one], self.insides[other])))
        return True

    def meet_rows(self, one, other, todo):
        """What meet_parts does, of two rows: each gets the fields that it lacks."""
        fields, last = self.flat(one)
        others, end = self.flat(other)
        todo.extend([(fields[label], others[label]) for label in fields if label in others])
        lacks = {label: others[label] for label in others if label not in fields}
        spare = {label: fields[label] for label in fields if label not in others}
        if last == end:
            return len(lacks) == 0 and len(spare) == 0
        if (len(lacks) > 0 and self.heads[last] is not None) or (len(spare) > 0 and self.heads[end] is not None):
            return False
        if len(lacks) == 0 and len(spare) == 0:
            todo.append((last, end))
            return True
        common = self.variable() if len(lacks) > 0 and len(spare) > 0 else None
        if len(lacks) > 0:
            self.links[last] = self.row_before(lacks, end if common is None else common)
        if len(spare) > 0:
            self.links[end] = self.row_before(spare, last if common is None else common)
        return True

    def row_before(self, fields, rest):
        """A new row that has the fields of a dict, and those of the row rest."""
        labels = sorted(fields)
        return self.make(("row", tuple(labels)), [fields[label] for label in labels] + [rest])

    def ordered(self, roots):
        """All nodes in these, each behind its parts; None if one is a part of itself, by a ring."""
        found = []
        is_done = {}
        todo = [(self.top(root), False) for root in roots][::-1]
        while len(todo) > 0:
            node, is_left = todo.pop()
            if is_left:
                is_done[node] = True
                found.append(node)
            elif node not in is_done:
                is_done[node] = False
                todo.append((node, True))
                for part in self.parts_at(node)[::-1]:
                    if part not in is_done:
                        todo.append((part, False))
                    elif not is_done[part]:
                        return None
        return found


def measures(graph, order):
    """Dicts from nodes, each behind its parts, to how many parts their kinds have, and to how deep these are.

    Of a row it is that of its kinds together. Where it is too much, it may be told as less, but still too much.
    """
    sizes = {}
    depths = {}
    for node in order:
        head = graph.heads[node]
        parts = graph.parts_at(node)
        if head is not None and head[0] in ("record", "row") and graph.heads[parts[-1]] is None:
            # A rest is no part.
            parts = parts[:-1]
        own = 0 if head is not None and head[0] in ("row", "end") else 1
        sizes[node] = min(own + sum([sizes[part] for part in parts]), MOST_PARTS + 1)
        depths[node] = own + max([0] + [depths[part] for part in parts])
    return (sizes, depths)


def check_greatness(graph, order, nodes):
    """Raises TooGreat if the kind, or the row, of some of these nodes is too great; all stand in order."""
    sizes, depths = measures(graph, order)
    for node in nodes:
        if sizes[node] > MOST_PARTS or depths[node] > DEEPEST_KIND:
            raise TooGreat(MOST_PARTS)


def is_too_great(graph, node):
    """Whether the kind of a node, which is looked into only so far, has more parts, or is deeper, than a KIND."""
    many = 0
    todo = [(node, 1)]
    while len(todo) > 0 and many <= MOST_PARTS:
        one, depth = todo.pop()
        if depth > DEEPEST_KIND:
            return True
        many += 1
        top = graph.top(one)
        graph.unfold(top)
        parts = graph.insides[top]
        if graph.heads[top] == ("record",):
            parts = list(graph.flat(parts[0])[0].values())
        todo.extend([(part, depth + 1) for part in parts])
    return many > MOST_PARTS


def row_of(thing):
    """The ROW of what written tells of a row, or of a rest."""
    return ((), thing) if thing[0] == "var" else thing


def written(graph, order, integers):
    """A dict from nodes, each behind its parts, to their KINDS and ROWS; integers has those of all variables.

    A rest is told as a variable. None of these kinds is too great.
    """
    made = {}
    for node in order:
        head = graph.heads[node]
        parts = [made[part] for part in graph.parts_at(node)]
        if head is None:
            made[node] = ("var", integers[node])
        elif head[0] == "end":
            made[node] = ((), None)
        elif head[0] == "row":
            fields, rest = row_of(parts[-1])
            made[node] = (tuple(sorted(list(zip(head[1], parts)) + list(fields), key=lambda field: field[0])), rest)
        elif head[0] == "record":
            made[node] = ("record",) + row_of(parts[0])
        elif head[0] in ("tuple", "of"):
            made[node] = head + (tuple(parts),)
        else:
            made[node] = head + tuple(parts)
    return made


def uses_in(pairs):
    """What variable_uses tells of all kinds in pairs."""
    return [use for pair in pairs for kind in pair for use in variable_uses(kind)]


class Solved:
    """Pairs of kinds in a graph. nodes: a dict from the variables of the pairs to their nodes.

    order: all nodes, each behind its parts; None if the pairs have no unifier.
    """

    def __init__(self, pairs):
        self.graph = Graph()
        self.nodes = {}
        for index in sorted({index: True for index, _ in uses_in(pairs)}):
            self.nodes[index] = self.graph.variable()
        self.order = self.solve(pairs)

    def solve(self, pairs):
        """Makes the kinds of each pair the same; tells what order is then."""
        roots = list(self.nodes.values())
        for one, other in pairs:
            roots.append(self.graph.built(one, self.nodes))
            roots.append(self.graph.built(other, self.nodes))
            if not self.graph.merge(roots[-2], roots[-1]):
                return None
        return self.graph.ordered(roots)

    def integers(self, order):
        """A dict from the nodes of all variables in order to integers; those that are new get the least ones."""
        numbers = {node: index for index, node in self.nodes.items()}
        least = max([-1] + list(self.nodes)) + 1
        for node in order:
            if self.graph.heads[node] is None and node not in numbers:
                numbers[node] = least
                least += 1
        return numbers


def unify(pairs):
    """A UNIFIER of pairs of KINDS that is SOLVED and MOST GENERAL, None if there is none."""
    solved = Solved(pairs)
    if solved.order is None:
        return None
    graph = solved.graph
    told = {index: graph.top(node) for index, node in solved.nodes.items() if graph.top(node) != node}
    check_greatness(graph, solved.order, [told[index] for index in told])
    order = graph.ordered([told[index] for index in told])
    made = written(graph, order, solved.integers(order))
    rests = {index: True for index, labels in uses_in(pairs) if labels is not None}
    return {index: row_of(made[node]) if index in rests else made[node] for index, node in told.items()}


def suits_uses(uses, sub):
    """Whether a SUBSTITUTION has a ROW for rests, with other labels than they stand behind, and KINDS otherwise."""
    for index, labels in uses:
        if index in sub:
            is_row = isinstance(sub[index][0], tuple)
            if is_row != (labels is not None):
                return False
            if is_row and len([label for label, _ in sub[index][0] if label in labels]) > 0:
                return False
    return True


def is_unifier(pairs, thing):
    """Whether a thing, any value, is a UNIFIER of pairs of KINDS."""
    if not is_substitution(thing) or not suits_uses(uses_in(pairs), thing):
        return False
    shelf = Shelf()
    env = {}
    for index, one in thing.items():
        if isinstance(one[0], tuple):
            labels = tuple([label for label, _ in one[0]])
            parts = [shelf.built(kind, {}) for _, kind in one[0]]
            env[index] = (labels, parts, None if one[1] is None else one[1][1])
        else:
            env[index] = shelf.built(one, {})
    return all([shelf.built(one, env) == shelf.built(other, env) for one, other in pairs])


def first_clash(pairs):
    """The least index such that the pairs up to it have no UNIFIER, None if all have one."""
    if Solved(pairs).order is not None:
        return None
    # The first fine pairs have a unifier, the first bad ones have none.
    fine = 0
    bad = len(pairs)
    while bad - fine > 1:
        middle = (fine + bad) // 2
        if Solved(pairs[:middle]).order is None:
            bad = middle
        else:
            fine = middle
    return bad - 1
