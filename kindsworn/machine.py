"""The machine."""

from kindsworn.engine import Engine
from kindsworn.errors import Wrong
from kindsworn.forms import is_index, is_truth
from kindsworn.rowwork import advance, advance_all
from kindsworn.words import is_code

NO_ROWS = ((("none",),), (), (), (), (None,))


def is_plan(thing):
    """Whether a thing is a PLAN."""
    return isinstance(thing, tuple) and all([is_truth(one) for one in thing])


def holds_changeable(thing):
    """Whether a list or a dict is in a thing."""
    todo = [thing]
    while len(todo) > 0:
        one = todo.pop()
        if isinstance(one, (list, dict)):
            return True
        if isinstance(one, tuple):
            todo.extend(list(one))
    return False


def copied(thing):
    """A thing with lists and dicts of its own."""
    if isinstance(thing, dict):
        made = {}
        for key, part in thing.items():
            made[key] = copied(part)
        return made
    if not holds_changeable(thing):
        return thing
    parts = []
    for part in thing:
        parts.append(copied(part))
    return parts if isinstance(thing, list) else tuple(parts)


class Machine:
    """A machine that does the rows of a CODE with a ROOM and a PLAN of collecting."""

    def __init__(self, code, room, plan):
        if not is_code(code):
            raise Wrong(0)
        if not is_index(room):
            raise Wrong(1)
        if not is_plan(plan):
            raise Wrong(2)
        self.engine = Engine(copied(code), room, plan)

    def step(self):
        """Does the next row, if the word is going."""
        advance(self.engine)

    def run(self, most):
        """Does rows, at most so many, as long as the word is going; tells how many were done."""
        return advance_all(self.engine, most)

    def shown(self):
        """The dict of all that the machine's state is made of."""
        engine = self.engine
        behind = engine.room_given - len(engine.words)
        halves = [tuple(engine.words) + (0,) * behind, (0,) * engine.room_given]
        return {
            "base": engine.base,
            "cells": engine.cells_made,
            "free": engine.free_address(),
            "half": engine.half,
            "hand": engine.hand,
            "heap": halves[engine.half] + halves[1 - engine.half],
            "made": engine.objects,
            "own": engine.own,
            "pile": tuple(engine.pile),
            "place": engine.place,
            "told": tuple(engine.told),
            "word": engine.word,
        }

    def code(self):
        """The CODE."""
        return copied(self.engine.code_given)

    def room(self):
        """The ROOM."""
        return self.engine.room_given

    def plan(self):
        """The PLAN."""
        return self.engine.plan_given

    def twin(self):
        """An independent Machine in the same state."""
        other = Machine(NO_ROWS, 0, ())
        other.engine = self.engine.another()
        return other


def roots(machine):
    """The ROOTS of a machine."""
    return machine.engine.roots_told()


def end_of(code, room, plan, most):
    """The word, the machine, and how many rows it did, of a new one that was run so."""
    machine = Machine(code, room, plan)
    rows = machine.run(most)
    return (machine.engine.word, machine, rows)
