"""Programs made into code."""

from kindsworn.scopes import captures_of, scope_within, term_of, wheres_of
from kindsworn.shapes import inner, names_in
from kindsworn.steps import UNIT, first_part, kept, kept_for_all
from kindsworn.trees import parts_of
from kindsworn.words import A_MAKER, A_NUMBER, A_TRUTH, AN_EMPTY, immediate

GIVEN = ("give",)
PUSH = ("push",)
# Behind these, at an END, stands a row of its own that ends the activation.
ENDED = (
    "num", "truth", "name", "fn", "tuple", "record", "field", "make", "new", "get", "put", "op", "tell",
)


class Spot:
    """Where a term is LAID: at a SCOPE, a DEPTH, and with what is waiting, at an END or bare.

    env has the WHERES of the whole scope, so it is narrowed as an ENV is.
    """

    def __init__(self, scope, depth, waiting, is_end):
        self.scope = scope
        self.depth = depth
        self.waiting = waiting
        self.is_end = is_end
        self.env = wheres_of(scope, list(scope))

    def ahead(self, frame):
        """What waits with a frame."""
        return (frame,) + self.waiting

    def for_part(self, more, frame):
        """Where a part is laid, with so many more own words, and with a frame."""
        return Spot(self.scope, self.depth + more, self.ahead(frame), False)

    def for_rest(self, more, names):
        """Where a rest is laid, or a body: with so many more own words, and then with those of these names."""
        first = self.depth + more
        scope = {**self.scope, **{name: ("local", first + index) for index, name in enumerate(names)}}
        return Spot(scope, first + len(names), self.waiting, self.is_end)


class Layer:
    """Lays terms: the rows and their notes as far as they are laid, the functions, and the labels of records."""

    def __init__(self, declarations):
        self.rows = []
        self.row_notes = []
        self.functions = []
        self.label_numbers = {}
        self.makers = [maker for _, _, rows in declarations for maker, _ in rows]

    def emit(self, row, doing, waiting):
        """Puts a row with its note behind the others; tells its index."""
        self.rows.append(row)
        self.row_notes.append((doing, waiting))
        return len(self.rows) - 1

    def lead(self, index):
        """Lets a row that goes to a place go to where the next row will be."""
        self.rows[index] = self.rows[index][:-1] + (len(self.rows),)

    def word_of(self, term):
        """The word of a term that gives what looks the same."""
        if term[0] == "num":
            return immediate(A_NUMBER, term[1])
        if term[0] == "truth":
            return immediate(A_TRUTH, int(term[1]))
        return immediate(AN_EMPTY, 0) if term == UNIT else immediate(A_MAKER, self.makers.index(term[1]))


def lay(layer, term, spot):
    """Lays a term."""
    first = len(layer.rows)
    lays = LAYS[term[0]]
    lays(layer, term, spot)
    # What is laid first may be a part, but there the whole is what is done.
    layer.row_notes[first] = (doing_of(term, spot), spot.waiting)
    if spot.is_end and term[0] in ENDED:
        layer.emit(("back",), GIVEN, ())


def doing_of(term, spot):
    """What a NOTE tells of the beginning of a term."""
    return ("do", term, kept(spot.env, term))


def lay_plain(layer, term, spot):
    """A num, a truth, the empty tuple, a make with None: its word."""
    layer.emit(("give", layer.word_of(term)), doing_of(term, spot), spot.waiting)


def lay_name(layer, term, spot):
    """A name: its WHERE."""
    layer.emit(spot.scope[term[1]], doing_of(term, spot), spot.waiting)


def lay_function(layer, sort, spot, doing):
    """The rows that make a function of a sort, the next one."""
    names = captures_of(sort)
    for name in names:
        layer.emit(spot.scope[name], doing, spot.waiting)
        layer.emit(PUSH, doing, spot.waiting)
    layer.emit(("closure", len(layer.functions), len(names)), doing, spot.waiting)
    layer.functions.append((0, sort, names))


def lay_fn(layer, term, spot):
    """A fn: what it captures, and its closure."""
    lay_function(layer, ("closure", term), spot, doing_of(term, spot))


def lay_first(layer, term, spot):
    """The part that is done first; tells the frame that waits."""
    frame, part = first_part(term, spot.env)
    lay(layer, part, spot.for_part(0, frame))
    return frame


def lay_two(layer, term, spot):
    """A call, a put, an op: both parts, the first one of which comes on the pile."""
    slot = ("slot", spot.depth)
    if term[0] == "call":
        behind = ("apply", slot)
        row = ("tail",) if spot.is_end else ("call",)
    elif term[0] == "put":
        behind = ("putto", slot)
        row = ("put",)
    else:
        behind = ("opto", term[1], slot)
        row = ("op", term[1])
    frame = lay_first(layer, term, spot)
    layer.emit(PUSH, GIVEN, spot.ahead(frame))
    lay(layer, parts_of(term)[1], spot.for_part(1, behind))
    layer.emit(row, GIVEN, spot.ahead(behind))


def lay_drop(layer, spot, many):
    """Behind what was bare, so many own words are taken off."""
    if not spot.is_end:
        layer.emit(("drop", many), GIVEN, spot.waiting)


def lay_let(layer, term, spot):
    """A let: one, which comes on the pile, and the rest."""
    frame = lay_first(layer, term, spot)
    layer.emit(PUSH, GIVEN, spot.ahead(frame))
    lay(layer, term[3], spot.for_rest(0, [term[1]]))
    lay_drop(layer, spot, 1)


def lay_rec(layer, term, spot):
    """A rec: its functions, which come on the pile, and the rest."""
    doing = doing_of(term, spot)
    for index in range(len(term[1])):
        lay_function(layer, ("loop", term[1], index), spot, doing)
        layer.emit(PUSH, doing, spot.waiting)
    lay(layer, term[2], spot.for_rest(0, [name for name, _ in term[1]]))
    lay_drop(layer, spot, len(term[1]))


def lay_if(layer, term, spot):
    """An if: the test, one, the other."""
    frame = lay_first(layer, term, spot)
    unless = layer.emit(("unless", None), GIVEN, spot.ahead(frame))
    lay(layer, term[2], spot)
    if spot.is_end:
        layer.lead(unless)
        lay(layer, term[3], spot)
    else:
        go = layer.emit(("go", None), GIVEN, spot.waiting)
        layer.lead(unless)
        lay(layer, term[3], spot)
        layer.lead(go)


def lay_items(layer, term, spot):
    """A tuple, a record: all parts, which come on the pile, and what is made of them."""
    if term == UNIT:
        lay_plain(layer, term, spot)
        return
    parts = parts_of(term)
    labels = tuple([label for label, _ in term[1]]) if term[0] == "record" else ()
    begun = ("record", labels) if term[0] == "record" else ("tuple",)
    frame = None
    for index, part in enumerate(parts):
        slots = tuple([("slot", spot.depth + ahead) for ahead in range(index)])
        rest = parts[index + 1:]
        frame = begun + (slots, rest, kept_for_all(spot.env, rest))
        lay(layer, part, spot.for_part(index, frame))
        layer.emit(PUSH, GIVEN, spot.ahead(frame))
    row = ("tuple", len(parts))
    if term[0] == "record":
        number = layer.label_numbers.setdefault(labels, len(layer.label_numbers))
        row = ("record", number, len(parts))
    layer.emit(row, GIVEN, spot.ahead(frame))


def lay_one(layer, term, spot):
    """A field, a make, a new, a get, a tell: its part, and what is done with it."""
    if term[0] == "make" and term[2] is None:
        lay_plain(layer, term, spot)
        return
    frame = lay_first(layer, term, spot)
    row = (term[0],)
    if term[0] == "field":
        row = ("label", term[2])
    elif term[0] == "make":
        row = ("make", layer.makers.index(term[1]))
    layer.emit(row, GIVEN, spot.ahead(frame))


def points_of(pattern):
    """All parts of a PATTERN, each ahead of those in it, with the rows that lead from the whole to it."""
    found = []
    todo = [((), pattern)]
    while len(todo) > 0:
        way, one = todo.pop()
        found.append((way, one))
        parts = inner("pattern", one)
        if one[0] == "record":
            steps = [("label", label) for label, _ in one[1]]
        else:
            steps = [("item", index) if one[0] == "tuple" else ("inside",) for index in range(len(parts))]
        todo.extend([(way + (step,), part) for step, part in zip(steps, parts)][::-1])
    return found


def lay_pattern(layer, pattern, spot, waiting):
    """The TESTS and BINDS of a row's pattern; tells the indexes of the rows that lead to the next row's."""
    doing = ("give", spot.depth)
    tests = []
    binds = []
    for way, one in points_of(pattern):
        ahead = (("local", spot.depth),) + way
        if one[0] in ("num", "truth"):
            tests.append(ahead + (("not" + one[0], one[1], None),))
        elif one[0] == "make":
            tests.append(ahead + (("notmaker", layer.makers.index(one[1]), None),))
        elif one[0] == "bind":
            binds.append(ahead + (PUSH,))
    lacking = []
    for steps in tests + binds:
        for step in steps:
            layer.emit(step, doing, waiting)
        if steps[-1] != PUSH:
            lacking.append(len(layer.rows) - 1)
    return lacking


def lay_match(layer, term, spot):
    """A match: its term, which comes on the pile, and its rows."""
    frame = lay_first(layer, term, spot)
    layer.emit(PUSH, GIVEN, spot.ahead(frame))
    ends = []
    for pattern, body in term[2]:
        lacking = lay_pattern(layer, pattern, spot, spot.ahead(frame))
        names = names_in(pattern)
        lay(layer, body, spot.for_rest(1, names))
        lay_drop(layer, spot, 1 + len(names))
        if not spot.is_end:
            ends.append(layer.emit(("go", None), GIVEN, spot.waiting))
        for index in lacking:
            layer.lead(index)
    layer.emit(("none",), ("give", spot.depth), spot.ahead(frame))
    for index in ends:
        layer.lead(index)


LAYS = {
    "num": lay_plain,
    "truth": lay_plain,
    "name": lay_name,
    "fn": lay_fn,
    "call": lay_two,
    "let": lay_let,
    "rec": lay_rec,
    "if": lay_if,
    "tuple": lay_items,
    "record": lay_items,
    "field": lay_one,
    "make": lay_one,
    "match": lay_match,
    "new": lay_one,
    "get": lay_one,
    "put": lay_two,
    "op": lay_two,
    "tell": lay_one,
}


def laid(declarations, term):
    """The CODE of a term without free names."""
    layer = Layer(declarations)
    lay(layer, term, Spot({}, 0, (), True))
    done = 0
    while done < len(layer.functions):
        _, sort, names = layer.functions[done]
        layer.functions[done] = (len(layer.rows), sort, names)
        lay(layer, term_of(sort)[2], Spot(scope_within(layer.functions, done), 1, (), True))
        done += 1
    labels = tuple(list(layer.label_numbers))
    return (tuple(layer.rows), tuple(layer.functions), labels, tuple(layer.makers), tuple(layer.row_notes))


def code_of(program):
    """The CODE of a PROGRAM."""
    return laid(program[0], program[1])


def depth_behind(row, depth):
    """How many OWN WORDS there are behind a row ahead of which there are so many."""
    if row[0] == "push":
        return depth + 1
    if row[0] in ("drop", "closure", "tuple", "record"):
        return depth - row[-1]
    return depth - 1 if row[0] in ("put", "op", "call") else depth


def places_behind(row, place):
    """The places to which a row at a place leads."""
    if row[0] in ("tail", "back", "none"):
        return []
    if row[0] == "go":
        return [row[1]]
    if row[0] in ("unless", "notnum", "nottruth", "notmaker"):
        return [place + 1, row[-1]]
    return [place + 1]


def depths_of(code):
    """For each row how many OWN WORDS there are ahead of it, None if no row leads to it."""
    rows, functions, _, _, _ = code
    depths = [None for _ in rows]
    todo = [(0, 0)] + [(function[0], 1) for function in functions]
    while len(todo) > 0:
        place, depth = todo.pop()
        if depths[place] is None:
            depths[place] = depth
            behind = depth_behind(rows[place], depth)
            todo.extend([(to, behind) for to in places_behind(rows[place], place)])
    return depths


def greatest_depth(code):
    """The greatest number of OWN WORDS that there are ahead of a row."""
    return max([depth for depth in depths_of(code) if depth is not None])
