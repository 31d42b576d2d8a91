"""The meaning of terms, step by step."""

from kindsworn.errors import Stuck
from kindsworn.forms import wrapped
from kindsworn.patterns import bindings
from kindsworn.trees import free_names
from kindsworn.values import narrowed, widened

UNIT = ("tuple", ())

# What stands in FRAMES behind the word with which they begin.
FRAME_FORMS = {
    "argument": ("term", "env"),
    "apply": ("value",),
    "let": ("name", "term", "env"),
    "if": ("term", "term", "env"),
    "tuple": ("values", "terms", "env"),
    "record": ("labels", "values", "terms", "env"),
    "make": ("maker",),
    "field": ("label",),
    "match": ("rows", "env"),
    "new": (),
    "get": (),
    "put": ("term", "env"),
    "putto": ("value",),
    "op": ("sign", "term", "env"),
    "opto": ("sign", "value"),
    "tell": (),
}


def kept(env, term):
    """The part of an ENV that has the names free in a term."""
    return narrowed(env, free_names(term))


def kept_for_all(env, terms):
    """The part of an ENV that has the names free in some of several terms."""
    return kept(env, ("tuple", terms))


# What is so but for control is a tuple (frames, cells, told) here, called around.


def do(term, env, around):
    """The state in which a term is DONE."""
    return (("do", term, kept(env, term)),) + around


def give(value, around):
    """The state in which a value is given."""
    return (("give", value),) + around


def ahead(frame, around):
    """What is so when a frame waits ahead of the others."""
    return ((frame,) + around[0],) + around[1:]


def loops_of(group, env):
    """The dict from the names of a group to the loops for which they stand."""
    return {name: ("loop", group, index, env) for index, (name, _) in enumerate(group)}


def first_part(term, env):
    """The frame that waits when a term with parts is done, and that part of it which is done first."""
    head = term[0]
    if head == "call":
        return (("argument", term[2], kept(env, term[2])), term[1])
    if head == "let":
        # A fn of the name has free just what a let's rest has besides it.
        return (("let", term[1], term[3], kept(env, ("fn", term[1], term[3]))), term[2])
    if head == "if":
        return (("if", term[2], term[3], kept_for_all(env, term[2:])), term[1])
    if head == "tuple":
        return (("tuple", (), term[1][1:], kept_for_all(env, term[1][1:])), term[1][0])
    if head == "record":
        terms = tuple([part for _, part in term[1]])
        labels = tuple([label for label, _ in term[1]])
        return (("record", labels, (), terms[1:], kept_for_all(env, terms[1:])), terms[0])
    if head == "field":
        return (("field", term[2]), term[1])
    if head == "make":
        return (("make", term[1]), term[2])
    if head == "match":
        return (("match", term[2], kept(env, ("match", UNIT, term[2]))), term[1])
    if head == "put":
        return (("put", term[2], kept(env, term[2])), term[1])
    if head == "op":
        return (("op", term[1], term[3], kept(env, term[3])), term[2])
    return ((head,), term[1])


def do_term(term, env, around):
    """The state behind one in which a term is done."""
    head = term[0]
    if head in ("num", "truth") or term == UNIT or (head == "make" and term[2] is None):
        return give(term, around)
    if head == "name":
        return give(dict(env)[term[1]], around)
    if head == "fn":
        return give(("closure", term, env), around)
    if head == "rec":
        within = kept(env, ("rec", term[1], UNIT))
        return do(term[2], widened(env, loops_of(term[1], within)), around)
    frame, part = first_part(term, env)
    return do(part, env, ahead(frame, around))


def give_argument(frame, value, around):
    """The function is known: the argument is next."""
    return do(frame[1], frame[2], ahead(("apply", value), around))


def give_apply(frame, value, around):
    """The argument is known: the body of the function is next."""
    function = frame[1]
    if function[0] == "closure":
        _, (_, name, body), env = function
    elif function[0] == "loop":
        _, group, index, within = function
        _, name, body = group[index][1]
        env = widened(within, loops_of(group, within))
    else:
        raise Stuck()
    return do(body, widened(env, {name: value}), around)


def give_let(frame, value, around):
    """What a name stands for is known: the rest is next."""
    _, name, term, env = frame
    return do(term, widened(env, {name: value}), around)


def give_if(frame, value, around):
    """The test is known."""
    _, one, other, env = frame
    if value[0] != "truth":
        raise Stuck()
    return do(one if value[1] else other, env, around)


def give_item(frame, value, around):
    """One more part of a tuple, or of a record, is known."""
    begun = frame[:-3]
    done, terms, env = frame[-3:]
    done = done + (value,)
    if len(terms) > 0:
        rest = begun + (done, terms[1:], kept_for_all(env, terms[1:]))
        return do(terms[0], env, ahead(rest, around))
    if begun[0] == "tuple":
        return give(("tuple", done), around)
    return give(("record", tuple(zip(begun[1], done))), around)


def give_make(frame, value, around):
    """What a maker makes something of is known."""
    return give(("make", frame[1], value), around)


def give_field(frame, value, around):
    """A record is known."""
    fields = dict(value[1]) if value[0] == "record" else {}
    if frame[1] not in fields:
        raise Stuck()
    return give(fields[frame[1]], around)


def give_match(frame, value, around):
    """What is matched is known: the body of the first row that matches is next."""
    _, rows, env = frame
    for pattern, body in rows:
        found = bindings(pattern, value)
        if found is not None:
            return do(body, widened(env, found), around)
    raise Stuck()


def give_new(_, value, around):
    """What a new cell has is known."""
    frames, cells, told = around
    return give(("cell", len(cells)), (frames, cells + ((len(cells), value),), told))


def give_get(_, value, around):
    """The cell is known."""
    if value[0] != "cell":
        raise Stuck()
    return give(dict(around[1])[value[1]], around)


def give_put(frame, value, around):
    """The cell is known: what it shall have is next."""
    return do(frame[1], frame[2], ahead(("putto", value), around))


def give_putto(frame, value, around):
    """What a cell shall have is known."""
    frames, cells, told = around
    if frame[1][0] != "cell":
        raise Stuck()
    changed = tuple([(index, value if index == frame[1][1] else old) for index, old in cells])
    return give(UNIT, (frames, changed, told))


def give_op(frame, value, around):
    """The first number is known: the other one is next."""
    _, sign, term, env = frame
    return do(term, env, ahead(("opto", sign, value), around))


def worked_out(sign, one, other):
    """The value that comes of two numbers."""
    if sign == "<":
        return ("truth", one < other)
    if sign == "=":
        return ("truth", one == other)
    if sign == "+":
        return ("num", wrapped(one + other))
    return ("num", wrapped(one - other if sign == "-" else one * other))


def give_opto(frame, value, around):
    """Both numbers are known."""
    _, sign, one = frame
    if one[0] != "num" or value[0] != "num":
        raise Stuck()
    return give(worked_out(sign, one[1], value[1]), around)


def give_tell(_, value, around):
    """A number that is told is known."""
    frames, cells, told = around
    if value[0] != "num":
        raise Stuck()
    return give(UNIT, (frames, cells, told + (value[1],)))


GIVES = {
    "argument": give_argument,
    "apply": give_apply,
    "let": give_let,
    "if": give_if,
    "tuple": give_item,
    "record": give_item,
    "make": give_make,
    "field": give_field,
    "match": give_match,
    "new": give_new,
    "get": give_get,
    "put": give_put,
    "putto": give_putto,
    "op": give_op,
    "opto": give_opto,
    "tell": give_tell,
}


def first_state(term):
    """The first state of a term without free names."""
    return (("do", term, ()), (), (), ())


def next_state(state):
    """The state behind one step, None at the END."""
    control, frames, cells, told = state
    if control[0] == "do":
        return do_term(control[1], control[2], (frames, cells, told))
    if len(frames) == 0:
        return None
    gives = GIVES[frames[0][0]]
    return gives(frames[0], control[1], (frames[1:], cells, told))
