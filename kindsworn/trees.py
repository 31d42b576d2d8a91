"""Terms as trees: their parts, their places, their names."""

from kindsworn.shapes import bound_by, every, inner, joined_names, loose_names, names_in, with_inner


def parts_of(term):
    """The PARTS of a term."""
    return tuple(inner("term", term))


def with_parts(term, parts):
    """The term with other parts, as many as it has."""
    return with_inner("term", term, list(parts))


def places_of(term):
    """The LOT of all PLACES of a term."""
    found = []
    todo = [((), term)]
    while todo:
        place, one = todo.pop()
        found.append(place)
        # The last part is put there first, so that the first one is gone through first: places come ascending.
        rows = [(place + (index,), part) for index, part in enumerate(parts_of(one))]
        todo.extend(rows[::-1])
    return tuple(found)


def size_of(term):
    """How many PLACES a term has."""
    return len(every("term", term))


def part_at(term, place):
    """The part at a PLACE of a term."""
    part = term
    for index in place:
        part = parts_of(part)[index]
    return part


def with_part(term, place, part):
    """The term with another part at a PLACE of it."""
    around = [part_at(term, place[:depth]) for depth in range(len(place))]
    made = part
    for depth in range(len(place) - 1, -1, -1):
        parts = list(parts_of(around[depth]))
        parts[place[depth]] = made
        made = with_parts(around[depth], parts)
    return made


def names_of(pattern):
    """The names that a PATTERN binds, ascending."""
    return tuple(sorted(names_in(pattern)))


def makers_of(pattern):
    """The makers of a PATTERN, in the order in which they stand, each as often as it does."""
    return tuple([one[1] for one in every("pattern", pattern) if one[0] == "make"])


def free_names(term):
    """The names that are FREE in a term, ascending."""
    return tuple(sorted(loose_names(term)))


def bound_at(term, place):
    """The names that are bound around a PLACE of a term, ascending."""
    names = {}
    part = term
    for index in place:
        names = joined_names(names, bound_by(part, index))
        part = parts_of(part)[index]
    return tuple(sorted(names))


def is_settled(term):
    """Whether a term is SETTLED."""
    todo = [term]
    while todo:
        one = todo.pop()
        if one[0] in ("tuple", "record", "make"):
            todo.extend(parts_of(one))
        elif one[0] not in ("num", "truth", "name", "fn"):
            return False
    return True


class FreshNames:
    """The names v0, v1, v2 and so on, but for those that are taken."""

    def __init__(self, taken):
        self.taken = taken
        self.number = 0

    def another(self):
        """The next one."""
        while f"v{self.number}" in self.taken:
            self.number += 1
        self.number += 1
        return f"v{self.number - 1}"


def called_anew(pattern, names):
    """The pattern that binds, instead of each name, what a dict has for it."""
    if pattern[0] == "bind":
        return ("bind", names[pattern[1]])
    parts = []
    for part in inner("pattern", pattern):
        parts.append(called_anew(part, names))
    return with_inner("pattern", pattern, parts)


def bound_anew(term, names):
    """The term that binds, instead of its own names, what a dict has for them; its parts stay."""
    if term[0] in ("fn", "let"):
        return (term[0], names[term[1]]) + term[2:]
    if term[0] == "rec":
        return ("rec", tuple([(names[name], function) for name, function in term[1]]), term[2])
    return term


def renamed(term, names, fresh):
    """The term with fresh names for those that it binds, and with what a dict has for others."""
    if term[0] == "name":
        return ("name", names.get(term[1], term[1]))
    if term[0] == "match":
        return renamed_match(term, names, fresh)
    parts = parts_of(term)
    own = names
    if term[0] in ("fn", "let", "rec"):
        own = {**names, **{name: fresh.another() for name in bound_by(term, len(parts) - 1)}}
    made = []
    for index, part in enumerate(parts):
        made.append(renamed(part, own if bound_by(term, index) else names, fresh))
    return with_parts(bound_anew(term, own), made)


def renamed_match(term, names, fresh):
    """What renamed tells of a match."""
    one = renamed(term[1], names, fresh)
    rows = []
    for pattern, body in term[2]:
        own = {**names, **{name: fresh.another() for name in names_in(pattern)}}
        rows.append((called_anew(pattern, own), renamed(body, own, fresh)))
    return ("match", one, tuple(rows))


def plain_names(term):
    """The term in which the bound names are v0, v1 and so on, but for those that are free in it."""
    return renamed(term, {}, FreshNames(loose_names(term)))


def are_alike(one, other):
    """Whether two terms are the same but for bound names."""
    return plain_names(one) == plain_names(other)
