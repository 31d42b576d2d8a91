"""How kinds, patterns and terms are made of others, for things that are formed as they should be."""

# What stands at each place behind the word with which a thing begins. "one", "perhaps one", "several", "any"
# and what stands second in the pairs of PAIRED are things of the same sort; all else is described by forms.
SHAPES = {
    ("kind", "num"): (),
    ("kind", "truth"): (),
    ("kind", "to"): ("one", "one"),
    ("kind", "tuple"): ("several",),
    ("kind", "record"): ("perhaps fields", "rest"),
    ("kind", "cell"): ("one",),
    ("kind", "of"): ("maker", "any"),
    ("kind", "var"): ("index",),
    ("pattern", "any"): (),
    ("pattern", "bind"): ("small",),
    ("pattern", "num"): ("number",),
    ("pattern", "truth"): ("truth",),
    ("pattern", "tuple"): ("several",),
    ("pattern", "record"): ("fields",),
    ("pattern", "make"): ("maker", "perhaps one"),
    ("term", "num"): ("number",),
    ("term", "truth"): ("truth",),
    ("term", "name"): ("name",),
    ("term", "fn"): ("small", "one"),
    ("term", "call"): ("one", "one"),
    ("term", "let"): ("name", "one", "one"),
    ("term", "rec"): ("group", "one"),
    ("term", "if"): ("one", "one", "one"),
    ("term", "tuple"): ("several",),
    ("term", "record"): ("fields",),
    ("term", "field"): ("one", "label"),
    ("term", "make"): ("maker", "perhaps one"),
    ("term", "match"): ("one", "rows"),
    ("term", "new"): ("one",),
    ("term", "get"): ("one",),
    ("term", "put"): ("one", "one"),
    ("term", "op"): ("sign", "one", "one"),
    ("term", "tell"): ("one",),
}
PAIRED = ("fields", "perhaps fields", "group", "rows")


def standing(form, place):
    """The things of the same sort that stand at a place of this form."""
    if form == "one":
        return [place]
    if form == "perhaps one":
        return [] if place is None else [place]
    if form in ("several", "any"):
        return list(place)
    if form in PAIRED:
        return [second for _, second in place]
    return []


def refilled(form, place, parts):
    """A place of this form with other things of the same sort, as many as stand there."""
    if form in ("one", "perhaps one"):
        return parts[0] if parts else None
    if form in ("several", "any"):
        return tuple(parts)
    if form in PAIRED:
        return tuple([(pair[0], part) for pair, part in zip(place, parts)])
    return place


def inner(sort, thing):
    """The things of the same sort right in a thing of a sort, from left to right."""
    found = []
    for form, place in zip(SHAPES[(sort, thing[0])], thing[1:]):
        found.extend(standing(form, place))
    return found


def with_inner(sort, thing, parts):
    """The thing with others in the place of those that inner tells."""
    made = [thing[0]]
    at = 0
    for form, place in zip(SHAPES[(sort, thing[0])], thing[1:]):
        many = len(standing(form, place))
        made.append(refilled(form, place, parts[at:at + many]))
        at += many
    return tuple(made)


def every(sort, thing):
    """The thing itself and all of its sort within it, each ahead of those in it, from left to right."""
    found = []
    todo = [thing]
    while todo:
        one = todo.pop()
        found.append(one)
        todo.extend(inner(sort, one)[::-1])
    return found


def variable_uses(kind):
    """For each variable, as often as it stands: a tuple of its integer and of the labels ahead of it, as a rest.

    They come in the order in which they stand; instead of labels there is None for one that is no rest.
    """
    found = []
    todo = [kind]
    while todo:
        one = todo.pop()
        if one[0] == "rest":
            found.append(one[1:])
        elif one[0] == "var":
            found.append((one[1], None))
        else:
            if one[0] == "record" and one[2] is not None:
                todo.append(("rest", one[2][1], tuple([label for label, _ in one[1]])))
            todo.extend(inner("kind", one)[::-1])
    return found


def fit_together(uses):
    """Whether each variable is a rest everywhere, behind the same labels, or nowhere."""
    met = {}
    for index, labels in uses:
        if index not in met:
            met[index] = labels
        elif met[index] != labels:
            return False
    return True


def names_in(pattern):
    """The names that a pattern binds, in the order in which they stand."""
    return [one[1] for one in every("pattern", pattern) if one[0] == "bind"]


def bound_by(term, index):
    """The names that a term binds in its part with an index."""
    if term[0] == "fn" or (term[0] == "let" and index == 1):
        return [term[1]]
    if term[0] == "rec":
        return [name for name, _ in term[1]]
    if term[0] == "match" and index > 0:
        return names_in(term[2][index - 1][0])
    return []


def joined_names(names, more):
    """A dict that has more names as keys."""
    return {**names, **{name: True for name in more}}


def loose_names(term):
    """A dict that has the names that are free in a term as keys."""
    found = {}
    todo = [(term, {})]
    while todo:
        one, bound = todo.pop()
        if one[0] == "name" and one[1] not in bound:
            found[one[1]] = True
        for index, part in enumerate(inner("term", one)):
            todo.append((part, joined_names(bound, bound_by(one, index))))
    return found


def makings(term):
    """For each maker in a term and in its patterns: a tuple of it and of whether something stands behind it."""
    found = []
    for one in every("term", term):
        if one[0] == "make":
            found.append((one[1], one[2] is not None))
        elif one[0] == "match":
            for pattern, _ in one[2]:
                within = every("pattern", pattern)
                found.extend([(part[1], part[2] is not None) for part in within if part[0] == "make"])
    return found


def has_values(kind, lacking, known):
    """Whether a kind has values as far as is known, if the variables of a tuple lack them.

    What is asked of a declared kind, and was not asked before, is noted as not so.
    """
    if kind[0] in ("num", "truth", "to"):
        return True
    if kind[0] == "var":
        return kind[1] not in lacking
    without = []
    for index, part in enumerate(inner("kind", kind)):
        if not has_values(part, lacking, known):
            without.append(index)
    if kind[0] != "of":
        return without == []
    asked = (kind[1], tuple(without))
    if asked not in known:
        known[asked] = False
    return known[asked]


def learned(makers, known):
    """Notes all that follows from what is known; tells whether anything is new."""
    before = len(known)
    more = False
    for asked in list(known):
        if not known[asked]:
            name, lacking = asked
            if any([kind is None or has_values(kind, lacking, known) for kind in makers[name]]):
                known[asked] = True
                more = True
    return more or len(known) > before


def valueless(declarations):
    """The kind names that do not have values, in the order in which they are declared."""
    makers = {name: [kind for _, kind in rows] for name, _, rows in declarations}
    # A declared kind's values hang on nothing of its kinds but on which of them lack values.
    known = {(name, ()): False for name, _, _ in declarations}
    while learned(makers, known):
        pass
    return [name for name, _, _ in declarations if not known[(name, ())]]
