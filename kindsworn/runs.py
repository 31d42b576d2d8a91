"""Runs of the meaning, the cells that are reached in them, and values of kinds."""

from kindsworn.derivations import makers_told, numbered
from kindsworn.errors import Stuck
from kindsworn.kinds import Shelf
from kindsworn.steps import FRAME_FORMS, first_state, next_state
from kindsworn.values import cells_in, is_value, values_in


def gone_on(state):
    """What a state is, "going", "ended" or "stuck", and the state behind one step, None if there is none."""
    try:
        following = next_state(state)
    except Stuck:
        return ("stuck", None)
    return ("ended" if following is None else "going", following)


def states_of(term, most):
    """The states from the first one on, at most so many steps, up to the END, or one that is stuck."""
    states = [first_state(term)]
    while len(states) <= most:
        _, following = gone_on(states[-1])
        if following is None:
            break
        states.append(following)
    return states


def run_of(term, most):
    """What the last one of these states is, this state, and how many steps lead to it."""
    state = first_state(term)
    steps = 0
    word, following = gone_on(state)
    while following is not None and steps < most:
        state = following
        steps += 1
        word, following = gone_on(state)
    return (word, state, steps)


def values_at(form, thing):
    """The values in what stands in a frame at a place of this form."""
    if form == "env":
        return [value for _, value in thing]
    if form == "values":
        return list(thing)
    return [thing] if form == "value" else []


def values_of_frame(frame):
    """The values in a FRAME."""
    found = []
    for form, thing in zip(FRAME_FORMS[frame[0]], frame[1:]):
        found.extend(values_at(form, thing))
    return found


def reached_cells(state):
    """The numbers of the cells in control, in frames, or in what such a cell has, and so on, ascending."""
    control, frames, cells, _ = state
    todo = [control[1]] if control[0] == "give" else values_at("env", control[2])
    for frame in frames:
        todo.extend(values_of_frame(frame))
    has = dict(cells)
    found = {}
    while len(todo) > 0:
        for index in cells_in(todo.pop()):
            if index not in found:
                found[index] = True
                todo.append(has[index])
    return tuple(sorted(found))


def trimmed(state):
    """The state with those cells alone that are reached."""
    control, frames, cells, told = state
    found = reached_cells(state)
    return (control, frames, tuple([cell for cell in cells if cell[0] in found]), told)


def deepest(states):
    """The greatest number of frames of some states."""
    return max([len(state[1]) for state in states])


def kinds_within(told, shelf, number, value):
    """The numbers of the kinds that the values right in a VALUE have to be of, so that it is OF a kind of a shelf.

    None if it is not, whatever is in it; told is what makers_told tells.
    """
    head = shelf.heads[number]
    parts = shelf.insides[number]
    if value[0] in ("closure", "loop"):
        return [] if head[0] == "to" else None
    if value[0] == "make":
        if value[1] not in told or head != ("of", told[value[1]][0]):
            return None
        kind = told[value[1]][2]
        if (kind is None) != (value[2] is None):
            return None
        return [] if kind is None else [shelf.built(kind, numbered(parts))]
    if head[0] != value[0]:
        return None
    if value[0] == "record":
        return parts if head[1] == tuple([label for label, _ in value[1]]) else None
    if value[0] == "tuple":
        return parts if len(parts) == len(value[1]) else None
    return []


def is_of_kind(declarations, kind, thing):
    """Whether a thing, any value, is a VALUE OF a KIND without variables."""
    if not is_value(thing):
        return False
    told = makers_told(declarations)
    shelf = Shelf()
    todo = [(shelf.built(kind, {}), thing)]
    while len(todo) > 0:
        number, value = todo.pop()
        within = kinds_within(told, shelf, number, value)
        if within is None:
            return False
        if value[0] in ("tuple", "record", "make"):
            todo.extend(list(zip(within, values_in(value))))
    return True
