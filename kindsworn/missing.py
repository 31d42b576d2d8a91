"""What patterns forget, which of them are needless, and values that patterns match."""

from kindsworn.derivations import makers_told, numbered, suited
from kindsworn.forms import is_pattern
from kindsworn.kinds import Shelf
from kindsworn.patterns import OPEN, lies_in, meet, nothing_bound
from kindsworn.shapes import every, inner, variable_uses, with_inner

ANY = ("any",)


def rows_told(declarations):
    """The dict from all makers to all rows (maker, kind or None) of their DECLARATIONS."""
    return {maker: rows for _, _, rows in declarations for maker, _ in rows}


def spare_number(patterns):
    """The least number from 0 on that stands in no pattern."""
    met = {one[1]: True for pattern in patterns for one in every("pattern", pattern) if one[0] == "num"}
    return min([number for number in range(len(met) + 1) if number not in met])


def begun(rows, row, spare):
    """Patterns that together match all that any matches, one of them begun as row is.

    Of numbers just that of the row and spare are told: this stands for all that no pattern has.
    """
    if row[0] == "num":
        return [row, ("num", spare)]
    if row[0] == "truth":
        return [("truth", True), ("truth", False)]
    if row[0] == "make":
        return [("make", maker, None if kind is None else ANY) for maker, kind in rows[row[1]]]
    return [with_inner("pattern", row, [ANY for _ in inner("pattern", row)])]


def with_labels(pattern, row):
    """A record that has the labels of another one too, with any under each that is new."""
    fields = {label: ANY for label, _ in row[1]}
    fields.update(dict(pattern[1]))
    return ("record", tuple([(label, fields[label]) for label in sorted(fields)]))


def parted(rows, pattern, row, spare):
    """Patterns that together match all that one matches that meets row, but does not lie in it; each one begins
    more as row does, or no more meets it. Nothing is bound in them.
    """
    if pattern[0] in OPEN:
        return begun(rows, row, spare)
    if row[0] == "record":
        wider = with_labels(pattern, row)
        if wider != pattern:
            return [wider]
        within = dict(row[1])
        pairs = [(part, within.get(label, ANY)) for label, part in pattern[1]]
    else:
        pairs = list(zip(inner("pattern", pattern), inner("pattern", row)))
    at = [lies_in(part, other) for part, other in pairs].index(False)
    parts = [part for part, _ in pairs]
    made = []
    for part in parted(rows, pairs[at][0], pairs[at][1], spare):
        made.append(with_inner("pattern", pattern, parts[:at] + [part] + parts[at + 1:]))
    return made


def pattern_at(pattern, path):
    """The part of a pattern to which a path of numbers of parts leads."""
    part = pattern
    for index in path:
        part = inner("pattern", part)[index]
    return part


def with_any(pattern, path):
    """The pattern that has any where a path leads."""
    if path == ():
        return ANY
    parts = inner("pattern", pattern)
    parts[path[0]] = with_any(parts[path[0]], path[1:])
    return with_inner("pattern", pattern, parts)


def loosened(pattern, wanted, patterns):
    """The pattern that has any wherever it then still lies in what is wanted, and meets none of some patterns.

    Without this it may tell a number where each one is left over, so that those told again and again never end.
    """
    todo = [()]
    while len(todo) > 0:
        path = todo.pop()
        other = with_any(pattern, path)
        if lies_in(other, wanted) and not any([meet(other, row) is not None for row in patterns]):
            pattern = other
        else:
            many = len(inner("pattern", pattern_at(pattern, path)))
            todo.extend([path + (index,) for index in range(many)][::-1])
    return pattern


def left_of(declarations, pattern, patterns):
    """A PATTERN, with nothing bound, that LIES IN one and meets none of some patterns, None if there is none."""
    rows = rows_told(declarations)
    spare = spare_number(list(patterns) + [pattern])
    todo = [nothing_bound(pattern)]
    while len(todo) > 0:
        one = todo.pop()
        met = [other for other in patterns if meet(one, other) is not None]
        if len(met) == 0:
            return loosened(one, pattern, patterns)
        if not any([lies_in(one, other) for other in met]):
            todo.extend(parted(rows, one, met[0], spare)[::-1])
    return None


def missing(declarations, kind, patterns):
    """A MISSING PATTERN of patterns that SUIT a KIND, with nothing bound, None if they are WHOLE."""
    # As all kinds have values, and patterns tell what is asked for, nothing hangs on the kind.
    return left_of(declarations, ANY, patterns)


def is_missing(declarations, kind, patterns, thing):
    """Whether a thing, any value, is a MISSING PATTERN of patterns that SUIT a KIND."""
    if not is_pattern(thing):
        return False
    told = makers_told(declarations)
    for one in every("pattern", thing):
        if one[0] == "make" and (one[1] not in told or (told[one[1]][2] is None) != (one[2] is None)):
            return False
    shelf = Shelf()
    if not suited(told, shelf, thing, shelf.built(kind, {}), {}):
        return False
    return all([meet(thing, other) is None for other in patterns])


def left_to(declarations, kind, patterns, index):
    """What is LEFT TO the pattern with an index, with nothing bound, None if it is NEEDLESS."""
    return left_of(declarations, patterns[index], patterns[:index])


def is_left_to(declarations, kind, patterns, index, thing):
    """Whether a thing, any value, is what is LEFT TO the pattern with an index."""
    return is_missing(declarations, kind, patterns[:index], thing) and lies_in(thing, patterns[index])


def needless(declarations, kind, patterns):
    """The indexes of the NEEDLESS patterns, ascending."""
    return tuple([at for at in range(len(patterns)) if left_to(declarations, kind, patterns, at) is None])


def is_plain(declarations, kind):
    """Whether a KIND is PLAIN."""
    if len(variable_uses(kind)) > 0:
        return False
    makers = {name: rows for name, _, rows in declarations}
    met = {}
    todo = [kind]
    while len(todo) > 0:
        for one in every("kind", todo.pop()):
            if one[0] in ("to", "cell"):
                return False
            if one[0] == "of" and one[1] not in met:
                met[one[1]] = True
                todo.extend([within for _, within in makers[one[1]] if within is not None])
    return True


class Values:
    """Finds values of PLAIN kinds, no more than so many makes within one another where no pattern is."""

    def __init__(self, declarations, most):
        self.told = makers_told(declarations)
        self.makers = {name: rows for name, _, rows in declarations}
        self.shelf = Shelf()
        self.most = most
        self.found = {}

    def least(self, number, most):
        """A VALUE of a kind, None if there is none with at most so many makes within one another."""
        if (number, most) not in self.found:
            if self.shelf.heads[number][0] == "of":
                value = self.made(number, most)
            else:
                value = self.of_parts(number, [(ANY, part) for part in self.shelf.insides[number]], most)
            self.found[(number, most)] = value
        return self.found[(number, most)]

    def made(self, number, most):
        """What least tells of a declared kind."""
        for maker, kind in self.makers[self.shelf.heads[number][1]]:
            if kind is None:
                return ("make", maker, None)
            if most > 0:
                value = self.least(self.shelf.built(kind, numbered(self.shelf.insides[number])), most - 1)
                if value is not None:
                    return ("make", maker, value)
        return None

    def of_parts(self, number, pairs, most):
        """A VALUE of a kind that is not declared, whose parts match patterns; pairs has these, and the parts' kinds."""
        head = self.shelf.heads[number]
        parts = []
        for pattern, part in pairs:
            parts.append(self.matching(pattern, part, most))
        if None in parts:
            return None
        if head[0] == "record":
            return ("record", tuple(zip(head[1], parts)))
        if head[0] == "tuple":
            return ("tuple", tuple(parts))
        return ("num", 0) if head[0] == "num" else ("truth", False)

    def matching(self, pattern, number, most):
        """A VALUE of a kind that a pattern matches, None if there is none with at most so many makes where none is."""
        if pattern[0] in OPEN:
            return self.least(number, most)
        if pattern[0] in ("num", "truth"):
            return pattern
        parts = self.shelf.insides[number]
        if pattern[0] == "record":
            known = dict(pattern[1])
            labels = self.shelf.heads[number][1]
            return self.of_parts(number, [(known.get(label, ANY), part) for label, part in zip(labels, parts)], most)
        if pattern[0] == "tuple":
            return self.of_parts(number, list(zip(pattern[1], parts)), most)
        if pattern[2] is None:
            return ("make", pattern[1], None)
        value = self.matching(pattern[2], self.shelf.built(self.told[pattern[1]][2], numbered(parts)), most)
        return None if value is None else ("make", pattern[1], value)


def some_value(declarations, kind, pattern):
    """A VALUE of a PLAIN kind that a pattern matches that SUITS the kind."""
    most = 0
    value = None
    while value is None:
        values = Values(declarations, most)
        value = values.matching(pattern, values.shelf.built(kind, {}), most)
        most += 1
    return value
