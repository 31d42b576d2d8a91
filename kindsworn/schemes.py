"""Schemes: their instances, what two of them have in common, and matching."""

from kindsworn.kinds import filled, head_of, rests_in, variables_in
from kindsworn.shapes import inner
from kindsworn.unify import Graph, check_greatness, written


def numbered_anew(kind):
    """A SUBSTITUTION that gives the variables of a KIND the integers from 0 on, in the order in which they come."""
    rests = rests_in(kind)
    sub = {}
    for index, old in enumerate(variables_in(kind)):
        sub[old] = ((), ("var", index)) if old in rests else ("var", index)
    return sub


def scheme_of(kind):
    """The SCHEME that has all variables of a KIND, numbered anew."""
    sub = numbered_anew(kind)
    return (len(sub), filled(kind, sub))


class Fitting:
    """What the variables of a graph have to be so that nodes come to kinds, whose own variables stay as they are.

    found: a dict from the nodes of variables to KINDS, of rests to ROWS.
    """

    def __init__(self, graph):
        self.graph = graph
        self.found = {}

    def notes(self, node, thing):
        """Notes what a variable, or a rest, has to be; tells whether it may be that."""
        if node not in self.found:
            self.found[node] = thing
        return self.found[node] == thing

    def fits(self, node, kind):
        """Notes what has to be so that a node comes to a KIND; tells whether this goes."""
        todo = [(node, kind)]
        while len(todo) > 0:
            one, other = todo.pop()
            top = self.graph.top(one)
            self.graph.unfold(top)
            head = self.graph.heads[top]
            if head is None:
                if not self.notes(top, other):
                    return False
            elif head[0] == "record":
                if other[0] != "record" or not self.fits_row(self.graph.insides[top][0], other, todo):
                    return False
            else:
                parts = inner("kind", other)
                if head != head_of(other) or len(parts) != len(self.graph.insides[top]):
                    return False
                todo.extend(list(zip(self.graph.insides[top], parts)))
        return True

    def fits_row(self, row, record, todo):
        """Notes what has to be so that a row comes to that of a record, but for fields, which are put to do."""
        fields, last = self.graph.flat(row)
        others = dict(record[1])
        if len([label for label in fields if label not in others]) > 0:
            return False
        todo.extend([(fields[label], others[label]) for label in fields])
        more = tuple([field for field in record[1] if field[0] not in fields])
        head = self.graph.heads[last]
        if head is None:
            return self.notes(last, (more, record[2]))
        # What is left is an end, or a rest that has to stay as it is.
        return len(more) == 0 and record[2] == (None if head[0] == "end" else ("var", head[1]))


def matched(kind, other, lot):
    """The SUBSTITUTION of variables of a lot by which a KIND comes to another one, None if there is none."""
    graph = Graph()
    rests = rests_in(kind)
    nodes = {}
    for index in variables_in(kind):
        own = ("rest", index) if index in rests else ("var", index)
        nodes[index] = graph.variable() if index in lot else graph.make(own, ())
    fitting = Fitting(graph)
    if not fitting.fits(graph.built(kind, nodes), other):
        return None
    return {index: fitting.found[nodes[index]] for index in sorted(nodes) if index in lot}


def instance_by(scheme, kind):
    """The SUBSTITUTION of all variables of a SCHEME by which its kind comes to a KIND, None if there is none."""
    return matched(scheme[1], kind, tuple(range(scheme[0])))


def is_instance(scheme, kind):
    """Whether a KIND is an INSTANCE of a SCHEME."""
    return instance_by(scheme, kind) is not None


def is_more_general(one, other):
    """Whether the kind of the SCHEME other is an INSTANCE of the SCHEME one."""
    return is_instance(one, other[1])


def built_apart(graph, scheme):
    """A node for the kind of a SCHEME, whose variables are apart from all others of the graph."""
    return graph.built(scheme[1], {index: graph.variable() for index in range(scheme[0])})


def common_instance(one, other):
    """The SCHEME of the KINDS that are instances of both SCHEMES, None if no KIND is."""
    graph = Graph()
    node = built_apart(graph, one)
    if not graph.merge(node, built_apart(graph, other)):
        return None
    order = graph.ordered([node])
    if order is None:
        return None
    check_greatness(graph, order, [graph.top(node)])
    integers = {part: at for at, part in enumerate(order) if graph.heads[part] is None}
    return scheme_of(written(graph, order, integers)[graph.top(node)])
