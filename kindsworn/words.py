"""Words, rows and code of the machine."""

from kindsworn.forms import are_unlike, is_headed, is_index, is_integer, is_label, is_maker, is_name, is_number
from kindsworn.forms import is_sign, is_truth

A_NUMBER = 0
A_TRUTH = 1
AN_EMPTY = 2
A_MAKER = 3
A_PLACE = 4
AN_ADDRESS = 5
UNIT = 5


def immediate(sort, content):
    """The IMMEDIATE word of a sort with a content."""
    return 10 * content + 2 * sort + 1


def sort_of(word):
    """The sort of a word, 5 for that of an address."""
    return AN_ADDRESS if word % 2 == 0 else word // 2 % 5


def content_of(word):
    """The content of a word, or its address."""
    return word // 2 if word % 2 == 0 else word // 10


def is_word(thing):
    """Whether a thing, any value, is a WORD."""
    if not is_integer(thing):
        return False
    sort = sort_of(thing)
    content = content_of(thing)
    if sort == A_NUMBER:
        return is_number(content)
    if sort == A_TRUTH:
        return content in (0, 1)
    return content == 0 if sort == AN_EMPTY else content >= 0


def is_given(thing):
    """Whether a thing is a word that a row gives."""
    return is_word(thing) and sort_of(thing) < A_PLACE


def is_some(thing):
    """Whether a thing is an integer from 1 on."""
    return is_index(thing) and thing >= 1


def is_many(thing):
    """Whether a thing is an integer from 2 on."""
    return is_index(thing) and thing >= 2


# What stands in ROWS behind the word with which they begin.
ROW_FORMS = {
    "give": ("given",),
    "local": ("index",),
    "captured": ("index",),
    "own": (),
    "push": (),
    "drop": ("some",),
    "tell": (),
    "closure": ("function", "index"),
    "tuple": ("many",),
    "record": ("labels", "some"),
    "sibling": ("function",),
    "make": ("maker",),
    "new": (),
    "get": (),
    "put": (),
    "item": ("index",),
    "label": ("label",),
    "inside": (),
    "op": ("sign",),
    "go": ("to",),
    "unless": ("to",),
    "notnum": ("number", "to"),
    "nottruth": ("truth", "to"),
    "notmaker": ("maker", "to"),
    "call": (),
    "tail": (),
    "back": (),
    "none": (),
}
RIGHT = {
    "given": is_given,
    "index": is_index,
    "some": is_some,
    "many": is_many,
    "function": is_index,
    "labels": is_index,
    "maker": is_index,
    "to": is_index,
    "label": is_label,
    "sign": is_sign,
    "number": is_number,
    "truth": is_truth,
}


def is_row(thing):
    """Whether a thing, any value, is a ROW."""
    if not is_headed(thing) or thing[0] not in ROW_FORMS:
        return False
    forms = ROW_FORMS[thing[0]]
    if len(thing) != len(forms) + 1:
        return False
    for form, part in zip(forms, thing[1:]):
        is_right = RIGHT[form]
        if not is_right(part):
            return False
    return True


def are_ascending(things, is_right):
    """Whether a thing is a tuple of strings that are right, ascending."""
    if not isinstance(things, tuple) or not all([is_right(one) for one in things]):
        return False
    return all([things[at] < things[at + 1] for at in range(len(things) - 1)])


def is_function(thing, many):
    """Whether a thing is a FUNCTION of a code with so many rows, whatever its sort is."""
    if not isinstance(thing, tuple) or len(thing) != 3:
        return False
    return is_index(thing[0]) and thing[0] < many and are_ascending(thing[2], is_name)


def row_fits(row, code):
    """Whether all that is told in a ROW is there in a code that is CODE but for its rows."""
    rows, functions, labels, makers, _ = code
    bounds = {"function": len(functions), "labels": len(labels), "maker": len(makers), "to": len(rows)}
    for form, part in zip(ROW_FORMS[row[0]], row[1:]):
        if form in bounds and part >= bounds[form]:
            return False
        if form == "given" and sort_of(part) == A_MAKER and content_of(part) >= len(makers):
            return False
    if row[0] == "closure" and row[2] != len(functions[row[1]][2]):
        return False
    return row[0] != "record" or row[2] == len(labels[row[1]])


def is_code(thing):
    """Whether a thing, any value, is CODE."""
    if not isinstance(thing, tuple) or len(thing) != 5 or not all([isinstance(part, tuple) for part in thing]):
        return False
    rows, functions, labels, makers, notes = thing
    if len(rows) == 0 or len(rows) != len(notes) or not all([is_row(row) for row in rows]):
        return False
    if not all([is_function(one, len(rows)) for one in functions]) or not all([is_maker(one) for one in makers]):
        return False
    if not all([are_ascending(some, is_label) and len(some) > 0 for some in labels]):
        return False
    return are_unlike(labels) and are_unlike(makers) and all([row_fits(row, thing) for row in rows])
