"""Kinds: their variables, their parts, and substitutions that are put in."""

from kindsworn.errors import TooGreat
from kindsworn.forms import DEEPEST_KIND, MOST_PARTS, is_formed, is_index, is_kind
from kindsworn.shapes import every, fit_together, inner, variable_uses, with_inner


def variables_in(kind):
    """The integers of all variables of a KIND, in the order in which they first come."""
    return tuple(list({index: True for index, _ in variable_uses(kind)}))


def rests_in(kind):
    """The integers of the variables of a KIND that are rests, ascending."""
    return tuple(sorted({index for index, labels in variable_uses(kind) if labels is not None}))


def are_fit(kinds):
    """Whether KINDS are FIT together."""
    return fit_together([use for kind in kinds for use in variable_uses(kind)])


def size_of_kind(kind):
    """How many parts a KIND has."""
    return len(every("kind", kind))


def field_kind(kind, label):
    """The KIND under a label of a record, None if there is none."""
    if kind[0] != "record":
        return None
    for other, within in kind[1]:
        if other == label:
            return within
    return None


def is_row(thing):
    """Whether a thing is a ROW, and no KIND."""
    if not isinstance(thing, tuple) or len(thing) != 2 or not isinstance(thing[0], tuple):
        return False
    # A record with this row is one part more, and one deeper, than the kinds in the row.
    record = ("record",) + thing
    return is_formed("kind", record, MOST_PARTS + 1, DEEPEST_KIND + 1) and fit_together(variable_uses(record))


def is_substitution(thing):
    """Whether a thing is a SUBSTITUTION."""
    if not isinstance(thing, dict):
        return False
    return all([is_index(key) and (is_kind(value) or is_row(value)) for key, value in thing.items()])


class Measure:
    """How many parts are counted, and how deep they are, as far as is needed to tell that it is too much."""

    def __init__(self, most, deepest):
        self.most = most
        self.deepest = deepest
        self.parts = 0
        self.depth = 0

    def is_too_great(self):
        """Whether there are too many parts, or one is too deep."""
        return self.parts > self.most or self.depth > self.deepest

    def take_in(self, kind, sub, above):
        """Counts the parts of a kind, above which are so many others, in which a substitution is put."""
        todo = [(kind, above + 1)]
        while len(todo) > 0 and not self.is_too_great():
            one, depth = todo.pop()
            if one[0] == "var" and one[1] in sub:
                self.take_in(sub[one[1]], {}, depth - 1)
                continue
            self.parts += 1
            self.depth = max(self.depth, depth)
            todo.extend([(part, depth + 1) for part in inner("kind", one)])
            for part in fields_added(one, sub):
                self.take_in(part[1], {}, depth)


def fields_added(kind, sub):
    """The fields that stand with those of a kind, if it is a record, when a substitution is put in."""
    if kind[0] != "record" or kind[2] is None or kind[2][1] not in sub:
        return ()
    return sub[kind[2][1]][0]


def filled(kind, sub):
    """The KIND in which a SUBSTITUTION is put, however great it is."""
    if kind[0] == "var":
        return sub.get(kind[1], kind)
    parts = []
    for part in inner("kind", kind):
        parts.append(filled(part, sub))
    made = with_inner("kind", kind, parts)
    if kind[0] != "record" or kind[2] is None or kind[2][1] not in sub:
        return made
    fields = sorted(made[1] + fields_added(kind, sub), key=lambda field: field[0])
    return ("record", tuple(fields), sub[kind[2][1]][1])


def put_within(kind, sub, most, deepest):
    """The KIND in which a SUBSTITUTION is put, if it has no more parts, and is no deeper."""
    measure = Measure(most, deepest)
    measure.take_in(kind, sub, 0)
    if measure.is_too_great():
        raise TooGreat(MOST_PARTS)
    return filled(kind, sub)


def put_in(kind, sub):
    """The KIND in which a SUBSTITUTION is put."""
    return put_within(kind, sub, MOST_PARTS, DEEPEST_KIND)


def put_in_row(row, sub):
    """The ROW in which a SUBSTITUTION is put."""
    return put_within(("record",) + row, sub, MOST_PARTS + 1, DEEPEST_KIND + 1)[1:]


def put_after(one, other):
    """The SUBSTITUTION by which comes what comes if one is put in, and then the other one."""
    made = {}
    for key in sorted({**one, **other}):
        thing = one[key] if key in one else other[key]
        sub = other if key in one else {}
        made[key] = put_in_row(thing, sub) if isinstance(thing[0], tuple) else put_in(thing, sub)
    return made
