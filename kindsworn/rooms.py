"""How much room a run needs, and how much its pile takes."""

from kindsworn.engine import Engine
from kindsworn.heap import MOST_FIELDS
from kindsworn.rowwork import advance, row_next


def needs_of(code, most):
    """The tuples (rows done ahead of it, NEED) of all rows of a run that make an object."""
    needs = []
    # If all is collected each time, what lies in the half behind a row that makes an object is its NEED.
    engine = Engine(code, (MOST_FIELDS + 1) * most, (True,))
    for done in range(most):
        made = engine.objects
        if not advance(engine):
            break
        if engine.objects > made:
            needs.append((done, len(engine.words)))
    return needs


def least_room(code, most):
    """The LEAST ROOM of a run."""
    return max([0] + [need for _, need in needs_of(code, most)])


def room_lacks(code, room, most):
    """How many rows are done ahead of the first one whose NEED is above a room, None if there is none."""
    for done, need in needs_of(code, most):
        if need > room:
            return done
    return None


def followed(code, most):
    """For each state of a run how many words are on the pile, and how many activations are open."""
    engine = Engine(code, (MOST_FIELDS + 1) * most, ())
    told = [(0, 1)]
    for _ in range(most):
        row = row_next(engine)
        if not advance(engine):
            break
        change = 1 if row[0] == "call" else -1 if row[0] == "back" and engine.word == "going" else 0
        told.append((len(engine.pile), told[-1][1] + change))
    return told


def piles_of(code, most):
    """How many words are on the pile, from the first state of a run on."""
    return [words for words, _ in followed(code, most)]


def greatest_pile(code, most):
    """The greatest number of words that are on the pile."""
    return max(piles_of(code, most))


def calls_open(code, most):
    """How many activations are open, from the first state of a run on."""
    return [many for _, many in followed(code, most)]
