"""What each row of a machine does."""

from kindsworn.forms import wrapped
from kindsworn.heap import A_CELL, A_CLOSURE, A_MAKE, A_RECORD, A_TUPLE
from kindsworn.words import A_MAKER, A_NUMBER, A_PLACE, A_TRUTH, UNIT, content_of, immediate, sort_of

# What stands below does a row, and tells the place behind it. It tells None if the row wants what is not so, or room
# is out, and changes nothing then, but for a collection.
# That no object has more than 255 fields is not asked of a code. The header of one that had more would tell another
# extra, so a row also asks whether the code has such labels, or such a function.


def do_give(engine, row):
    """A word comes into the hand."""
    engine.hand = row[1]
    return engine.place + 1


def do_local(engine, row):
    """An own word comes into the hand."""
    if engine.own_words() <= row[1]:
        return None
    engine.hand = engine.pile[engine.base + row[1]]
    return engine.place + 1


def do_field(engine, word, sort, index):
    """The field of an object of this sort comes into the hand."""
    found, _, fields = engine.object_of(word)
    if found != sort or len(fields) <= index:
        return None
    engine.hand = fields[index]
    return engine.place + 1


def do_captured(engine, row):
    """A field of the own closure comes into the hand."""
    return do_field(engine, engine.own, A_CLOSURE, row[1])


def do_own(engine, _):
    """The own closure comes into the hand."""
    if engine.object_of(engine.own)[0] != A_CLOSURE:
        return None
    engine.hand = engine.own
    return engine.place + 1


def do_push(engine, _):
    """The hand comes on the pile."""
    engine.pile.append(engine.hand)
    return engine.place + 1


def do_drop(engine, row):
    """Own words are taken off."""
    if engine.own_words() < row[1]:
        return None
    del engine.pile[len(engine.pile) - row[1]:]
    return engine.place + 1


def do_tell(engine, _):
    """A number is told."""
    if sort_of(engine.hand) != A_NUMBER:
        return None
    engine.told.append(content_of(engine.hand))
    engine.hand = UNIT
    return engine.place + 1


def do_closure(engine, row):
    """A closure is made."""
    return engine.make_of_pile(A_CLOSURE, row[1], row[2])


def do_tuple(engine, row):
    """A tuple is made."""
    return engine.make_of_pile(A_TUPLE, 0, row[1])


def do_record(engine, row):
    """A record is made."""
    return engine.make_of_pile(A_RECORD, row[1], row[2])


def do_sibling(engine, row):
    """A closure with the fields of the own one is made."""
    sort, _, fields = engine.object_of(engine.own)
    if sort != A_CLOSURE or len(fields) != len(engine.code_given[1][row[1]][2]):
        return None
    if not engine.finds_room(len(fields)):
        return None
    return engine.put_object(A_CLOSURE, row[1], engine.object_of(engine.own)[2])


def do_make(engine, row):
    """A make is made."""
    return engine.make_of_hand(A_MAKE, row[1])


def do_new(engine, _):
    """A cell is made."""
    to = engine.make_of_hand(A_CELL, engine.cells_made)
    if to is not None:
        engine.cells_made += 1
    return to


def do_get(engine, _):
    """What a cell has comes into the hand."""
    return do_field(engine, engine.hand, A_CELL, 0)


def do_put(engine, _):
    """A cell has what is in the hand from now on."""
    if engine.own_words() == 0 or engine.object_of(engine.pile[-1])[0] != A_CELL:
        return None
    engine.change_field(engine.pile.pop(), engine.hand)
    engine.hand = UNIT
    return engine.place + 1


def do_item(engine, row):
    """A field of a tuple comes into the hand."""
    return do_field(engine, engine.hand, A_TUPLE, row[1])


def do_label(engine, row):
    """A field of a record comes into the hand."""
    sort, extra, _ = engine.object_of(engine.hand)
    known = engine.code_given[2]
    labels = known[extra] if sort == A_RECORD and extra < len(known) else ()
    if row[1] not in labels:
        return None
    return do_field(engine, engine.hand, A_RECORD, labels.index(row[1]))


def do_inside(engine, _):
    """What a maker made something of comes into the hand."""
    return do_field(engine, engine.hand, A_MAKE, 0)


def do_op(engine, row):
    """Two numbers are worked out."""
    if engine.own_words() == 0 or sort_of(engine.pile[-1]) != A_NUMBER or sort_of(engine.hand) != A_NUMBER:
        return None
    one = content_of(engine.pile.pop())
    other = content_of(engine.hand)
    if row[1] in ("<", "="):
        engine.hand = immediate(A_TRUTH, int(one < other if row[1] == "<" else one == other))
    else:
        told = {"+": one + other, "-": one - other, "*": one * other}
        engine.hand = immediate(A_NUMBER, wrapped(told[row[1]]))
    return engine.place + 1


def do_go(_, row):
    """Another place is next."""
    return row[1]


def do_unless(engine, row):
    """Another place is next if the hand is False."""
    if sort_of(engine.hand) != A_TRUTH:
        return None
    return row[1] if content_of(engine.hand) == 0 else engine.place + 1


def do_notnum(engine, row):
    """Another place is next if the hand is another number."""
    if sort_of(engine.hand) != A_NUMBER:
        return None
    return row[2] if content_of(engine.hand) != row[1] else engine.place + 1


def do_nottruth(engine, row):
    """Another place is next if the hand is the other truth."""
    if sort_of(engine.hand) != A_TRUTH:
        return None
    return row[2] if content_of(engine.hand) != int(row[1]) else engine.place + 1


def do_notmaker(engine, row):
    """Another place is next if another maker made what is in the hand."""
    if sort_of(engine.hand) == A_MAKER:
        maker = content_of(engine.hand)
    else:
        sort, maker, _ = engine.object_of(engine.hand)
        if sort != A_MAKE:
            return None
    return row[2] if maker != row[1] else engine.place + 1


def function_called(engine):
    """The number of the function of the closure that is the last own word, None if there is none."""
    if engine.own_words() == 0:
        return None
    sort, extra, _ = engine.object_of(engine.pile[-1])
    return extra if sort == A_CLOSURE and extra < len(engine.code_given[1]) else None


def do_call(engine, _):
    """A function is begun; what is gone on with behind it comes on the pile."""
    function = function_called(engine)
    if function is None:
        return None
    closure = engine.pile.pop()
    behind = [immediate(A_PLACE, engine.place + 1), immediate(A_PLACE, engine.base), engine.own]
    engine.pile.extend(behind)
    engine.base = len(engine.pile)
    engine.pile.append(engine.hand)
    engine.own = closure
    return engine.code_given[1][function][0]


def do_tail(engine, _):
    """A function is begun in the place of the newest activation."""
    function = function_called(engine)
    if function is None:
        return None
    engine.own = engine.pile[-1]
    del engine.pile[engine.base:]
    engine.pile.append(engine.hand)
    return engine.code_given[1][function][0]


def do_back(engine, _):
    """The newest activation ends, and the run with the last one."""
    if engine.base == 0:
        engine.word = "ended"
        return engine.place
    at = engine.base - 3
    place, base, own = engine.pile[at:engine.base]
    del engine.pile[at:]
    engine.own = own
    engine.base = content_of(base)
    return content_of(place)


def do_none(engine, _):
    """Nothing is done: what this wants is never so."""
    return None


DOES = {
    "give": do_give,
    "local": do_local,
    "captured": do_captured,
    "own": do_own,
    "push": do_push,
    "drop": do_drop,
    "tell": do_tell,
    "closure": do_closure,
    "tuple": do_tuple,
    "record": do_record,
    "sibling": do_sibling,
    "make": do_make,
    "new": do_new,
    "get": do_get,
    "put": do_put,
    "item": do_item,
    "label": do_label,
    "inside": do_inside,
    "op": do_op,
    "go": do_go,
    "unless": do_unless,
    "notnum": do_notnum,
    "nottruth": do_nottruth,
    "notmaker": do_notmaker,
    "call": do_call,
    "tail": do_tail,
    "back": do_back,
    "none": do_none,
}


def row_next(engine):
    """The row at the engine's place, None if there is none."""
    rows = engine.code_given[0]
    return rows[engine.place] if engine.place < len(rows) else None


def advance(engine):
    """Does the next row, if the engine is going; tells whether it is done."""
    if engine.word != "going":
        return False
    row = row_next(engine)
    to = None
    if row is not None:
        does = DOES[row[0]]
        to = does(engine, row)
    if to is not None:
        engine.place = to
    elif engine.word == "going":
        engine.word = "stuck"
    return to is not None


def advance_all(engine, most):
    """Does rows, at most so many, as long as the engine is going; tells how many are done."""
    done = 0
    while done < most and advance(engine):
        done += 1
    return done
