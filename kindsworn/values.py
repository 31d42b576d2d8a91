"""Values and environments."""

from kindsworn.forms import are_perhaps_fields, is_index, is_maker, is_name, is_number, is_several, is_term, is_truth
from kindsworn.shapes import loose_names

LENGTHS = {"num": 2, "truth": 2, "tuple": 2, "record": 2, "make": 3, "cell": 2, "closure": 3, "loop": 4}
ENV_AT = {"closure": 2, "loop": 3}


def is_headed_value(thing):
    """Whether a thing begins, and is as long, as a VALUE."""
    if not isinstance(thing, tuple) or len(thing) == 0 or not isinstance(thing[0], str):
        return False
    return thing[0] in LENGTHS and len(thing) == LENGTHS[thing[0]]


def captured_by(value):
    """The dict of the names that the env of a closure, or a loop, has."""
    return loose_names(value[1] if value[0] == "closure" else ("rec", value[1], ("num", 0)))


def are_env_names(thing):
    """Whether a thing is a tuple of pairs that begin with NAMES, ascending."""
    if not isinstance(thing, tuple) or not all([isinstance(pair, tuple) and len(pair) == 2 for pair in thing]):
        return False
    if not all([is_name(pair[0]) for pair in thing]):
        return False
    return all([thing[at][0] < thing[at + 1][0] for at in range(len(thing) - 1)])


def is_right_function(value):
    """Whether a closure or a loop is formed as it should be, but for the values in its env."""
    if value[0] == "closure":
        if not is_term(value[1]) or value[1][0] != "fn":
            return False
    elif not is_term(("rec", value[1], ("num", 0))) or not is_index(value[2]) or value[2] >= len(value[1]):
        return False
    env = value[ENV_AT[value[0]]]
    return are_env_names(env) and [name for name, _ in env] == sorted(captured_by(value))


def is_right_value(value):
    """Whether a thing with the head of a VALUE is formed like one, but for the values in it."""
    if value[0] == "num":
        return is_number(value[1])
    if value[0] == "truth":
        return is_truth(value[1])
    if value[0] == "tuple":
        return is_several(value[1])
    if value[0] == "record":
        return are_perhaps_fields(value[1])
    if value[0] == "make":
        return is_maker(value[1])
    if value[0] == "cell":
        return is_index(value[1])
    return is_right_function(value)


def values_in(value):
    """The values right in a value, within its env too, from left to right."""
    if value[0] == "tuple":
        return list(value[1])
    if value[0] == "record":
        return [part for _, part in value[1]]
    if value[0] == "make":
        return [] if value[2] is None else [value[2]]
    if value[0] in ENV_AT:
        return [part for _, part in value[ENV_AT[value[0]]]]
    return []


def are_values(things):
    """Whether all things of a list are VALUES."""
    todo = list(things)
    while len(todo) > 0:
        one = todo.pop()
        if not is_headed_value(one) or not is_right_value(one):
            return False
        todo.extend(values_in(one))
    return True


def is_value(thing):
    """Whether a thing, any value, is a VALUE."""
    return are_values([thing])


def is_env(thing):
    """Whether a thing, any value, is an ENV."""
    return are_env_names(thing) and are_values([value for _, value in thing])


def narrowed(env, names):
    """The part of an ENV that has names of a tuple."""
    return tuple([pair for pair in env if pair[0] in names])


def widened(env, more):
    """The ENV with what a dict from names to values tells, which goes ahead of what is there."""
    known = {**dict(env), **more}
    return tuple([(name, known[name]) for name in sorted(known)])


def cells_in(value):
    """The numbers of all cells in a VALUE, within envs too, ascending."""
    found = {}
    todo = [value]
    while len(todo) > 0:
        one = todo.pop()
        if one[0] == "cell":
            found[one[1]] = True
        todo.extend(values_in(one))
    return tuple(sorted(found))


def show_fields(fields):
    """The text of a record."""
    rows = []
    for label, value in fields:
        rows.append(f"{label} = {show_value(value)}")
    return ", ".join(rows)


def show_value(value):
    """A text that tells a VALUE."""
    if value[0] == "num":
        return str(value[1])
    if value[0] == "truth":
        return "true" if value[1] else "false"
    if value[0] == "cell":
        return "cell"
    if value[0] in ENV_AT:
        return "fn"
    if value[0] == "record":
        return "{" + show_fields(value[1]) + "}"
    parts = []
    for part in values_in(value):
        parts.append(show_value(part))
    if value[0] == "tuple":
        return "(" + ", ".join(parts) + ")"
    if value[2] is None:
        return value[1]
    is_filled = value[2][0] == "make" and value[2][2] is not None
    return f"{value[1]} ({parts[0]})" if is_filled else f"{value[1]} {parts[0]}"
