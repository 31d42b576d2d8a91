"""Programs that are taken: those that have a kind, and whose matches are whole."""

from kindsworn.checker import derivation_of
from kindsworn.errors import NotTyped, NotWhole
from kindsworn.lots import least_lot
from kindsworn.missing import missing, needless
from kindsworn.schemes import scheme_of
from kindsworn.trees import part_at, places_of


def kinds_of(program):
    """The kinds of all places of a program in a MOST GENERAL DERIVATION."""
    derivation = derivation_of(program, places_of(program[1]))
    if derivation is None:
        raise NotTyped(least_lot(program))
    return derivation[0]


def matches_in(program, kinds):
    """The tuples (place, kind of the term, patterns) of all matches of a program, the least place first."""
    found = []
    for place in places_of(program[1]):
        term = part_at(program[1], place)
        if term[0] == "match":
            found.append((place, kinds[place + (0,)], [pattern for pattern, _ in term[2]]))
    return found


def forgotten(program, kinds):
    """What first_unwhole tells of a program whose places have such kinds."""
    for place, kind, patterns in matches_in(program, kinds):
        pattern = missing(program[0], kind, patterns)
        if pattern is not None:
            return (place, pattern)
    return None


def first_unwhole(program):
    """The least place of a match that is not WHOLE, and what it forgets, None if all are WHOLE."""
    return forgotten(program, kinds_of(program))


def needless_rows(program):
    """The dict from the places of all matches with NEEDLESS rows to the tuples of the indexes of these."""
    found = {}
    for place, kind, patterns in matches_in(program, kinds_of(program)):
        rows = needless(program[0], kind, patterns)
        if len(rows) > 0:
            found[place] = rows
    return found


def is_taken(program):
    """Whether a program is TAKEN."""
    derivation = derivation_of(program, places_of(program[1]))
    return derivation is not None and forgotten(program, derivation[0]) is None


def taken(program):
    """The SCHEME of a program that is TAKEN."""
    kinds = kinds_of(program)
    unwhole = forgotten(program, kinds)
    if unwhole is not None:
        raise NotWhole(unwhole[0], unwhole[1])
    return scheme_of(kinds[()])
