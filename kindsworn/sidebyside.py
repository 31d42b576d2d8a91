"""The machine beside the meaning."""

from kindsworn.compiler import code_of
from kindsworn.engine import Engine
from kindsworn.forms import is_integer
from kindsworn.readback import Readback, state_meant
from kindsworn.rowwork import advance, advance_all, row_next
from kindsworn.runs import gone_on, trimmed
from kindsworn.steps import first_state
from kindsworn.trees import size_of


class Pair:
    """A machine and the meaning, which goes along with it.

    mark: the index of the state of the meaning that was found last. states: those from this one on, as far as they
    are known.
    """

    def __init__(self, program, room, plan):
        self.engine = Engine(code_of(program), room, plan)
        self.most = size_of(program[1]) + 2
        self.mark = 0
        self.states = [first_state(program[1])]

    def state_ahead(self, steps):
        """The state of the meaning so many steps on, None if there is none."""
        while len(self.states) <= steps:
            _, following = gone_on(self.states[-1])
            if following is None:
                return None
            self.states.append(following)
        return self.states[steps]

    def search(self, least, most):
        """Goes on to the first state that the machine means, at least and at most so many steps on.

        Tells its index, None if there is none.
        """
        meant = state_meant(self.engine)
        for steps in range(least, most + 1):
            state = self.state_ahead(steps)
            if state is None:
                return None
            if is_meant(state, meant):
                self.mark += steps
                self.states = self.states[steps:]
                return self.mark
        return None

    def first(self):
        """The first mark, None if the first state is not what the machine means."""
        return self.search(0, 0)

    def goes_on(self):
        """Whether one more row is done; the least number of steps that the next mark is on is told with it."""
        row = row_next(self.engine)
        if not advance(self.engine):
            return (False, 0)
        return (True, 1 if row[0] in ("call", "tail") else 0)


def is_meant(state, meant):
    """Whether a state, trimmed, is what a machine means."""
    if state[0] != meant[0] or state[3] != meant[3] or state[1] != meant[1]:
        return False
    return trimmed(state) == meant


def marks_of(program, room, plan, most):
    """The MARKS of a run of at most so many rows, None if some state of it has none."""
    pair = Pair(program, room, plan)
    marks = [pair.first()]
    while len(marks) <= most and marks[-1] is not None:
        is_on, least = pair.goes_on()
        if not is_on:
            break
        marks.append(pair.search(least, pair.most))
    return None if marks[-1] is None else marks


def are_marks(program, room, plan, thing):
    """Whether a thing, any value, is a list of MARKS of a run."""
    if not isinstance(thing, list) or len(thing) == 0 or not all([is_integer(mark) for mark in thing]):
        return False
    pair = Pair(program, room, plan)
    if pair.first() != thing[0]:
        return False
    for mark in thing[1:]:
        is_on, least = pair.goes_on()
        if not is_on or pair.search(least, pair.most) != mark:
            return False
    return True


def silent_rows(marks):
    """The greatest number of rows behind one another that keep a mark."""
    greatest = 0
    silent = 0
    for at in range(len(marks) - 1):
        silent = silent + 1 if marks[at] == marks[at + 1] else 0
        greatest = max(greatest, silent)
    return greatest


def strides(marks):
    """The greatest number of steps of one row."""
    return max([0] + [marks[at + 1] - marks[at] for at in range(len(marks) - 1)])


def end_by_code(code, room, plan, most):
    """What ends_alike tells of the program of a CODE."""
    engine = Engine(code, room, plan)
    advance_all(engine, most)
    value = Readback(engine).read(engine.hand) if engine.word == "ended" else None
    return (engine.word, value, tuple(engine.told))


def ends_alike(program, room, plan, most):
    """How a run of at most so many rows ends: its word, the VALUE if there is one, and what was told."""
    return end_by_code(code_of(program), room, plan, most)


def alike_by_plans(program, room, plans, most):
    """Whether the runs by those plans of a list by which the program ends have the same value and told numbers."""
    code = code_of(program)
    ends = [end_by_code(code, room, plan, most) for plan in plans]
    values = [end for end in ends if end[0] == "ended"]
    return all([end == values[0] for end in values])
