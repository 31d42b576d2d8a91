"""Lots of places that have no kinds, the least of them, and what mends them."""

from kindsworn.checker import has_derivation, is_solvable
from kindsworn.derivations import Outline
from kindsworn.errors import TooMany
from kindsworn.forms import is_lot
from kindsworn.trees import places_of

MOST_TRIED = 10


def all_places(program):
    """The LOT of all places of a program."""
    return places_of(program[1])


def has_kinds(program, lot):
    """Whether a program has kinds with a lot."""
    return has_derivation(program, lot)


class Trials:
    """Looks at which lots of a program are good."""

    def __init__(self, program):
        self.declarations = program[0]
        self.outline = Outline(program[1])
        self.places = self.outline.places

    def is_good(self, places):
        """Whether the program has kinds with these places, in any order."""
        return is_solvable(self.declarations, self.outline, places)

    def is_lot_here(self, thing):
        """Whether a thing, any value, is a LOT of places of the program."""
        return is_lot(thing) and all([place in self.places for place in thing])

    def without(self, lot):
        """The list of all places but those of a lot."""
        left_out = {place: True for place in lot}
        return [place for place in self.places if place not in left_out]

    def is_least_bad(self, lot):
        """Whether a LOT is a LEAST BAD one."""
        if self.is_good(lot):
            return False
        return all([self.is_good(lot[:at] + lot[at + 1:]) for at in range(len(lot))])

    def least_bad(self, places):
        """The LEAST BAD LOT that is left of ascending places, which are bad, if all that can be is left out.

        They are gone through in descending order. Where several are left out at once, each one would be by itself.
        """
        left = list(places)
        kept = []
        step = 1
        while len(left) > 0:
            if not self.is_good(left[:-step] + kept):
                left = left[:-step]
                step = min(2 * step, len(left))
            elif step > 1:
                step = step // 2
            else:
                kept.insert(0, left.pop())
        return tuple(kept)


def least_lot(program):
    """A LEAST BAD LOT, None if the program has a kind."""
    trials = Trials(program)
    return None if trials.is_good(trials.places) else trials.least_bad(trials.places)


def is_least_lot(program, thing):
    """Whether a thing, any value, is a LEAST BAD LOT."""
    trials = Trials(program)
    return trials.is_lot_here(thing) and trials.is_least_bad(thing)


def lots_apart(program):
    """LEAST BAD LOTS, no two with a place in common, until what is left is good."""
    trials = Trials(program)
    found = []
    left = list(trials.places)
    while not trials.is_good(left):
        found.append(trials.least_bad(left))
        left = trials.without([place for lot in found for place in lot])
    return found


def are_lots_apart(program, thing):
    """Whether a thing, any value, is a list of LEAST BAD LOTS, no two with a place in common."""
    trials = Trials(program)
    if not isinstance(thing, list) or not all([trials.is_lot_here(lot) for lot in thing]):
        return False
    places = [place for lot in thing for place in lot]
    return len(set(places)) == len(places) and all([trials.is_least_bad(lot) for lot in thing])


def some_of(lot, chosen):
    """The places of a lot at the indexes that are bits of a number."""
    return tuple([place for at, place in enumerate(lot) if (chosen >> at) & 1 == 1])


def choices(lot):
    """The numbers whose bits tell lots that lie in a lot, each behind those of all lots that lie in it."""
    if len(lot) > MOST_TRIED:
        raise TooMany(MOST_TRIED)
    # Of two numbers that which has some more bits is greater.
    return list(range(1 << len(lot)))


def least_lots_in(program, lot):
    """The LEAST BAD LOTS that lie in a lot, ascending."""
    chosen = choices(lot)
    trials = Trials(program)
    found = []
    for one in chosen:
        if not any([(one & other) == other for other in found]) and not trials.is_good(some_of(lot, one)):
            found.append(one)
    return sorted([some_of(lot, one) for one in found])


def greatest_lots_in(program, lot):
    """The GOOD LOTS that lie in a lot, and in no other such one, ascending."""
    chosen = choices(lot)
    trials = Trials(program)
    found = []
    for one in chosen[::-1]:
        if not any([(one & other) == one for other in found]) and trials.is_good(some_of(lot, one)):
            found.append(one)
    return sorted([some_of(lot, one) for one in found])


def mends(program, lot):
    """Whether a lot is a MENDING LOT."""
    trials = Trials(program)
    return trials.is_good(trials.without(lot))


def least_mending(program):
    """A MENDING LOT of which no place can be spared."""
    trials = Trials(program)
    kept = []
    for place in trials.places:
        if trials.is_good(kept + [place]):
            kept.append(place)
    return tuple(trials.without(kept))


def is_least_mending(program, thing):
    """Whether a thing, any value, is a MENDING LOT which with any one place less is none."""
    trials = Trials(program)
    if not trials.is_lot_here(thing):
        return False
    left = trials.without(thing)
    return trials.is_good(left) and not any([trials.is_good(left + [place]) for place in thing])
