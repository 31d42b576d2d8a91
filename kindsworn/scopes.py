"""What functions capture, and where the names of a scope are."""

from kindsworn.steps import UNIT
from kindsworn.trees import free_names


def captures_of(sort):
    """The names that a function of a sort captures, ascending."""
    return free_names(sort[1] if sort[0] == "closure" else ("rec", sort[1], UNIT))


def term_of(sort):
    """The fn of a function of a sort."""
    return sort[1] if sort[0] == "closure" else sort[1][sort[2]][1]


def scope_within(functions, f):
    """The SCOPE in which the body of a function begins."""
    _, sort, names = functions[f]
    scope = {name: ("captured", index) for index, name in enumerate(names)}
    if sort[0] == "loop":
        _, group, own = sort
        for index, (name, _) in enumerate(group):
            scope[name] = ("own",) if index == own else ("sibling", f - own + index)
    scope[term_of(sort)[1]] = ("local", 0)
    return {name: scope[name] for name in sorted(scope)}


def wheres_of(scope, names):
    """The tuples (name, WHERE) of some names of a SCOPE, ascending."""
    return tuple([(name, scope[name]) for name in sorted({name for name in names})])
