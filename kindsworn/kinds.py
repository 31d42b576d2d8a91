"""Kinds: their variables, their parts, and substitutions that are put in."""

from kindsworn.errors import TooGreat
from kindsworn.forms import DEEPEST_KIND, MOST_PARTS, is_formed, is_index, is_kind
from kindsworn.shapes import every, fit_together, inner, variable_uses, with_inner


def variables_in(kind):
    """The integers of all variables of a KIND, in the order in which they first come."""
    return tuple(list({index: True for index, _ in variable_uses(kind)}))


def rests_in(kind):
    """The integers of the variables of a KIND that are rests, ascending."""
    return tuple(sorted({index for index, labels in variable_uses(kind) if labels is not None}))


def are_fit(kinds):
    """Whether KINDS are FIT together."""
    return fit_together([use for kind in kinds for use in variable_uses(kind)])


def size_of_kind(kind):
    """How many parts a KIND has."""
    return len(every("kind", kind))


def field_kind(kind, label):
    """The KIND under a label of a record, None if there is none."""
    if kind[0] != "record":
        return None
    for other, within in kind[1]:
        if other == label:
            return within
    return None


def is_row(thing):
    """Whether a thing is a ROW, and no KIND."""
    if not isinstance(thing, tuple) or len(thing) != 2 or not isinstance(thing[0], tuple):
        return False
    # A record with this row is one part more, and one deeper, than the kinds in the row.
    record = ("record",) + thing
    return is_formed("kind", record, MOST_PARTS + 1, DEEPEST_KIND + 1) and fit_together(variable_uses(record))


def is_substitution(thing):
    """Whether a thing is a SUBSTITUTION."""
    if not isinstance(thing, dict):
        return False
    return all([is_index(key) and (is_kind(value) or is_row(value)) for key, value in thing.items()])


class Measure:
    """How many parts are counted, and how deep they are, as far as is needed to tell that it is too much."""

    def __init__(self, most, deepest):
        self.most = most
        self.deepest = deepest
        self.parts = 0
        self.depth = 0

    def is_too_great(self):
        """Whether there are too many parts, or one is too deep."""
        return self.parts > self.most or self.depth > self.deepest

    def take_in(self, kind, sub, above):
        """Counts the parts of a kind, above which are so many others, in which a substitution is put."""
        todo = [(kind, above + 1)]
        while len(todo) > 0 and not self.is_too_great():
            one, depth = todo.pop()
            if one[0] == "var" and one[1] in sub:
                self.take_in(sub[one[1]], {}, depth - 1)
                continue
            self.parts += 1
            self.depth = max(self.depth, depth)
            todo.extend([(part, depth + 1) for part in inner("kind", one)])
            for part in fields_added(one, sub):
                self.take_in(part[1], {}, depth)


def fields_added(kind, sub):
    """The fields that stand with those of a kind, if it is a record, when a substitution is put in."""
    if kind[0] != "record" or kind[2] is None or kind[2][1] not in sub:
        return ()
    return sub[kind[2][1]][0]


def filled(kind, sub):
    """The KIND in which a SUBSTITUTION is put, however great it is."""
    if kind[0] == "var":
        return sub.get(kind[1], kind)
    parts = []
    for part in inner("kind", kind):
        parts.append(filled(part, sub))
    made = with_inner("kind", kind, parts)
    if kind[0] != "record" or kind[2] is None or kind[2][1] not in sub:
        return made
    fields = sorted(made[1] + fields_added(kind, sub), key=lambda field: field[0])
    return ("record", tuple(fields), sub[kind[2][1]][1])


def put_within(kind, sub, most, deepest):
    """The KIND in which a SUBSTITUTION is put, if it has no more parts, and is no deeper."""
    measure = Measure(most, deepest)
    measure.take_in(kind, sub, 0)
    if measure.is_too_great():
        raise TooGreat(MOST_PARTS)
    return filled(kind, sub)


def put_in(kind, sub):
    """The KIND in which a SUBSTITUTION is put."""
    return put_within(kind, sub, MOST_PARTS, DEEPEST_KIND)


def put_in_row(row, sub):
    """The ROW in which a SUBSTITUTION is put."""
    return put_within(("record",) + row, sub, MOST_PARTS + 1, DEEPEST_KIND + 1)[1:]


def put_after(one, other):
    """The SUBSTITUTION by which comes what comes if one is put in, and then the other one."""
    made = {}
    for key in sorted({**one, **other}):
        thing = one[key] if key in one else other[key]
        sub = other if key in one else {}
        made[key] = put_in_row(thing, sub) if isinstance(thing[0], tuple) else put_in(thing, sub)
    return made


def head_of(kind):
    """What a KIND begins with, and what tells it apart from others with the same kinds in it."""
    if kind[0] == "record":
        return ("record", tuple([label for label, _ in kind[1]]), None if kind[2] is None else kind[2][1])
    if kind[0] in ("of", "var"):
        return (kind[0], kind[1])
    return (kind[0],)


class Shelf:
    """Kinds, however great, each told by a number of its own: the same kinds by the same number.

    heads: what each kind begins with, as head_of tells. insides: the numbers of the kinds in it. sizes, depths:
    how many parts it has, and how deep it is, told only as far as tells that it is too much.
    """

    def __init__(self):
        self.known = {}
        self.heads = []
        self.insides = []
        self.sizes = []
        self.depths = []

    def make(self, head, parts):
        """The number of the kind with this head and these kinds in it."""
        key = (head, tuple(parts))
        if key not in self.known:
            self.known[key] = len(self.heads)
            self.heads.append(head)
            self.insides.append(key[1])
            self.sizes.append(min(1 + sum([self.sizes[part] for part in key[1]]), MOST_PARTS + 1))
            self.depths.append(min(1 + max([0] + [self.depths[part] for part in key[1]]), DEEPEST_KIND + 1))
        return self.known[key]

    def record(self, labels, parts):
        """The number of the record that has kinds of these numbers under ascending labels, and no others."""
        return self.make(("record", tuple(labels), None), parts)

    def built(self, kind, env):
        """The number of a KIND in which stands, for variables, what a dict has for them: numbers of kinds.

        For rests it has tuples of labels, of as many numbers, and of the integer of the rest behind, or None.
        """
        if kind[0] == "var" and kind[1] in env:
            return env[kind[1]]
        parts = []
        for part in inner("kind", kind):
            parts.append(self.built(part, env))
        head = head_of(kind)
        if head[0] != "record" or head[2] not in env:
            return self.make(head, parts)
        labels, more, rest = env[head[2]]
        fields = sorted(list(zip(head[1] + labels, parts + more)), key=lambda field: field[0])
        return self.make(("record", tuple([label for label, _ in fields]), rest), [part for _, part in fields])

    def is_too_great(self, number):
        """Whether a kind has more parts, or is deeper, than a KIND."""
        return self.sizes[number] > MOST_PARTS or self.depths[number] > DEEPEST_KIND

    def written(self, number):
        """The KIND of a number; it is not too great."""
        parts = []
        for part in self.insides[number]:
            parts.append(self.written(part))
        head = self.heads[number]
        if head[0] == "record":
            return ("record", tuple(zip(head[1], parts)), None if head[2] is None else ("var", head[2]))
        if head[0] in ("tuple", "of"):
            return head + (tuple(parts),)
        return head + tuple(parts)

    def variables_at(self, number):
        """A dict that has the integers of all variables of a kind as keys."""
        found = {}
        met = {number: True}
        todo = [number]
        while todo:
            one = todo.pop()
            head = self.heads[one]
            if head[0] == "var":
                found[head[1]] = True
            elif head[0] == "record" and head[2] is not None:
                found[head[2]] = True
            for part in self.insides[one]:
                if part not in met:
                    met[part] = True
                    todo.append(part)
        return found
