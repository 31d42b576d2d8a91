"""Patterns: what they match, and how two of them lie to one another."""

from kindsworn.shapes import inner, with_inner

OPEN = ("any", "bind")


def matched_parts(pattern, value):
    """The pairs of patterns and values that have to match so that a pattern does, None if they begin unlike."""
    if pattern[0] in OPEN:
        return []
    if pattern[0] != value[0]:
        return None
    if pattern[0] == "tuple":
        return list(zip(pattern[1], value[1])) if len(pattern[1]) == len(value[1]) else None
    if pattern[0] == "record":
        fields = dict(value[1])
        if not all([label in fields for label, _ in pattern[1]]):
            return None
        return [(part, fields[label]) for label, part in pattern[1]]
    if pattern[0] == "make":
        if pattern[1] != value[1] or (pattern[2] is None) != (value[2] is None):
            return None
        return [] if pattern[2] is None else [(pattern[2], value[2])]
    return [] if pattern[1] == value[1] else None


def bindings(pattern, value):
    """The dict from the names that a pattern binds to what they match in a VALUE, None if it does not match."""
    found = {}
    todo = [(pattern, value)]
    while len(todo) > 0:
        one, part = todo.pop()
        if one[0] == "bind":
            found[one[1]] = part
        pairs = matched_parts(one, part)
        if pairs is None:
            return None
        todo.extend(pairs)
    return {name: found[name] for name in sorted(found)}


def first_row(patterns, value):
    """The least index of a pattern that matches a VALUE, None if none does."""
    for index, pattern in enumerate(patterns):
        if bindings(pattern, value) is not None:
            return index
    return None


def nothing_bound(pattern):
    """The pattern in which any stands wherever something is bound."""
    if pattern[0] in OPEN:
        return ("any",)
    parts = []
    for part in inner("pattern", pattern):
        parts.append(nothing_bound(part))
    return with_inner("pattern", pattern, parts)


def meet_records(one, other):
    """What meet tells of two records."""
    fields = dict(one[1])
    others = dict(other[1])
    met = []
    for label in sorted({**fields, **others}):
        part = meet(fields.get(label, ("any",)), others.get(label, ("any",)))
        if part is None:
            return None
        met.append((label, part))
    return ("record", tuple(met))


def meet(one, other):
    """A PATTERN that matches just what both match, in which nothing is bound, None if there is no such value."""
    if one[0] in OPEN:
        return nothing_bound(other)
    if other[0] in OPEN:
        return nothing_bound(one)
    if one[0] == "record" and other[0] == "record":
        return meet_records(one, other)
    parts = inner("pattern", one)
    others = inner("pattern", other)
    if one[:2] != other[:2] and (one[0] != "tuple" or other[0] != "tuple"):
        return None
    if len(parts) != len(others):
        return None
    met = []
    for part, another in zip(parts, others):
        met.append(meet(part, another))
    return None if None in met else with_inner("pattern", one, met)


def lies_in(one, other):
    """Whether a PATTERN LIES IN another one."""
    if other[0] in OPEN:
        return True
    # A pattern that is no any or bind is made of parts as a value is.
    pairs = matched_parts(other, one)
    return pairs is not None and all([lies_in(part, within) for within, part in pairs])
