"""Whether things are names, kinds, declarations, patterns, terms, programs."""

from kindsworn.shapes import SHAPES, every, fit_together, inner, loose_names, makings, names_in, valueless
from kindsworn.shapes import variable_uses

SMALL_LETTERS = "abcdefghijklmnopqrstuvwxyz"
GREAT_LETTERS = "ABCDEFGHIJKLMNOPQRSTUVWXYZ"
NAME_SIGNS = "abcdefghijklmnopqrstuvwxyzABCDEFGHIJKLMNOPQRSTUVWXYZ0123456789_"
BARRED = (
    "module", "use", "give", "kind", "let", "rec", "and", "in", "fn", "if", "then", "else", "match", "with", "end",
    "new", "get", "put", "tell", "true", "false",
)
SIGNS = ("+", "-", "*", "<", "=")
LONGEST_NAME = 20
LEAST_NUMBER = -2147483648
GREATEST_NUMBER = 2147483647
ALL_NUMBERS = 4294967296
MOST_PARTS = 2000
DEEPEST_KIND = 100


def is_integer(thing):
    """Whether a thing is an integer."""
    return isinstance(thing, int) and not isinstance(thing, bool)


def is_number(thing):
    """Whether a thing is a NUMBER."""
    return is_integer(thing) and LEAST_NUMBER <= thing <= GREATEST_NUMBER


def is_index(thing):
    """Whether a thing is an integer from 0 on."""
    return is_integer(thing) and thing >= 0


def is_truth(thing):
    """Whether a thing is True or False."""
    return isinstance(thing, bool)


def begins_name(thing, letters):
    """Whether a thing is made like a name that begins with one of these letters."""
    if not isinstance(thing, str) or not 1 <= len(thing) <= LONGEST_NAME:
        return False
    return thing[0] in letters and all([sign in NAME_SIGNS for sign in thing])


def is_small(thing):
    """Whether a thing is a SMALL NAME."""
    return begins_name(thing, SMALL_LETTERS) and thing not in BARRED


def is_great(thing):
    """Whether a thing is a GREAT NAME."""
    return begins_name(thing, GREAT_LETTERS)


def is_name(thing):
    """Whether a thing is a NAME."""
    if not isinstance(thing, str):
        return False
    sides = thing.split(".")
    return is_small(sides[-1]) and (len(sides) == 1 or (len(sides) == 2 and is_great(sides[0])))


def is_label(thing):
    """Whether a thing is a LABEL."""
    return is_small(thing)


def is_maker(thing):
    """Whether a thing may be a MAKER or a KIND NAME."""
    if not isinstance(thing, str):
        return False
    sides = thing.split(".")
    return len(sides) <= 2 and all([is_great(side) for side in sides])


def is_sign(thing):
    """Whether a thing is the sign of an op."""
    return isinstance(thing, str) and thing in SIGNS


def is_rest(thing):
    """Whether a thing is None or a VARIABLE, as the rest of a record is."""
    if thing is None:
        return True
    return isinstance(thing, tuple) and len(thing) == 2 and thing[0] == "var" and is_index(thing[1])


def anything(_):
    """True: what stands there is asked behind."""
    return True


def is_several(thing):
    """Whether a thing is a tuple of none or at least two."""
    return isinstance(thing, tuple) and len(thing) != 1


def is_any_many(thing):
    """Whether a thing is a tuple."""
    return isinstance(thing, tuple)


def are_pairs(thing):
    """Whether a thing is a tuple of pairs."""
    return isinstance(thing, tuple) and all([isinstance(pair, tuple) and len(pair) == 2 for pair in thing])


def are_perhaps_fields(thing):
    """Whether a thing is a tuple of pairs that begin with labels, ascending."""
    if not are_pairs(thing) or not all([is_label(pair[0]) for pair in thing]):
        return False
    return all([thing[at][0] < thing[at + 1][0] for at in range(len(thing) - 1)])


def are_fields(thing):
    """Whether a thing is a tuple of at least one pair, which begin with labels, ascending."""
    return are_perhaps_fields(thing) and len(thing) > 0


def are_unlike(names):
    """Whether no string comes twice in a list."""
    return len(set(names)) == len(names)


def is_group(thing):
    """Whether a thing is a tuple of at least one pair of a name and what begins like a fn, the names unlike."""
    if not are_pairs(thing) or len(thing) == 0:
        return False
    for name, function in thing:
        if not is_name(name) or not is_headed(function) or function[0] != "fn":
            return False
    return are_unlike([name for name, _ in thing])


def are_rows(thing):
    """Whether a thing is a tuple of at least one pair that begins with a pattern."""
    return are_pairs(thing) and len(thing) > 0 and all([is_pattern(pair[0]) for pair in thing])


def is_headed(thing):
    """Whether a thing is a tuple that begins with a string."""
    return isinstance(thing, tuple) and len(thing) > 0 and isinstance(thing[0], str)


RIGHT = {
    "one": anything,
    "perhaps one": anything,
    "several": is_several,
    "any": is_any_many,
    "fields": are_fields,
    "perhaps fields": are_perhaps_fields,
    "group": is_group,
    "rows": are_rows,
    "rest": is_rest,
    "number": is_number,
    "truth": is_truth,
    "index": is_index,
    "small": is_small,
    "name": is_name,
    "label": is_label,
    "maker": is_maker,
    "sign": is_sign,
}


def inner_if_formed(sort, thing):
    """What inner tells of a thing, None if it is not formed like one of its sort, but for what is in it."""
    if not is_headed(thing) or (sort, thing[0]) not in SHAPES:
        return None
    shape = SHAPES[(sort, thing[0])]
    if len(thing) != len(shape) + 1:
        return None
    for form, place in zip(shape, thing[1:]):
        is_right = RIGHT[form]
        if not is_right(place):
            return None
    return inner(sort, thing)


def is_formed(sort, thing, most, deepest):
    """Whether a thing is formed like those of a sort, with at most so many parts, and so deep; None is no bound."""
    todo = [(thing, 1)]
    many = 0
    while todo:
        one, depth = todo.pop()
        many += 1
        if most is not None and (many > most or depth > deepest):
            return False
        parts = inner_if_formed(sort, one)
        if parts is None:
            return False
        todo.extend([(part, depth + 1) for part in parts])
    return True


def is_kind(thing):
    """Whether a thing is a KIND."""
    return is_formed("kind", thing, MOST_PARTS, DEEPEST_KIND) and fit_together(variable_uses(thing))


def is_scheme(thing):
    """Whether a thing is a SCHEME."""
    if not isinstance(thing, tuple) or len(thing) != 2 or not is_integer(thing[0]) or not is_kind(thing[1]):
        return False
    met = {index: True for index, _ in variable_uses(thing[1])}
    return len(met) == thing[0] and list(met) == list(range(len(met)))


def is_making(thing, many):
    """Whether a thing is a pair of a maker and its kind, or None, with variables below many, none of them a rest."""
    if not isinstance(thing, tuple) or len(thing) != 2 or not is_maker(thing[0]):
        return False
    if thing[1] is None:
        return True
    return is_kind(thing[1]) and all([rest is None and index < many for index, rest in variable_uses(thing[1])])


def is_declaration(thing):
    """Whether a thing is formed like a DECLARATION, whatever kind names stand in it."""
    if not isinstance(thing, tuple) or len(thing) != 3:
        return False
    name, many, makers = thing
    if not is_maker(name) or not is_index(many) or not isinstance(makers, tuple) or len(makers) == 0:
        return False
    return all([is_making(making, many) for making in makers])


def are_kinds_known(declarations):
    """Whether all declared kinds that stand in makers' kinds are there, with as many kinds as they take."""
    takes = {name: many for name, many, _ in declarations}
    kinds = [kind for _, _, makers in declarations for _, kind in makers if kind is not None]
    for kind in kinds:
        for one in every("kind", kind):
            if one[0] == "of" and (one[1] not in takes or takes[one[1]] != len(one[2])):
                return False
    return True


def is_declarations(thing):
    """Whether a thing is DECLARATIONS."""
    if not isinstance(thing, tuple) or not all([is_declaration(one) for one in thing]):
        return False
    makers = [maker for _, _, rows in thing for maker, _ in rows]
    if not are_unlike([name for name, _, _ in thing]) or not are_unlike(makers):
        return False
    return are_kinds_known(thing) and valueless(thing) == []


def is_pattern(thing):
    """Whether a thing is a PATTERN."""
    return is_formed("pattern", thing, None, None) and are_unlike(names_in(thing))


def is_term(thing):
    """Whether a thing is a TERM."""
    return is_formed("term", thing, None, None)


def is_program(thing):
    """Whether a thing is a PROGRAM."""
    if not isinstance(thing, tuple) or len(thing) != 2:
        return False
    declarations, term = thing
    if not is_declarations(declarations) or not is_term(term) or len(loose_names(term)) > 0:
        return False
    takes = {maker: kind is not None for _, _, rows in declarations for maker, kind in rows}
    return all([maker in takes and takes[maker] == filled for maker, filled in makings(term)])


def is_place(thing):
    """Whether a thing is a tuple of integers from 0 on."""
    return isinstance(thing, tuple) and all([is_index(part) for part in thing])


def is_lot(thing):
    """Whether a thing is a LOT OF PLACES."""
    if not isinstance(thing, tuple) or not all([is_place(place) for place in thing]):
        return False
    return all([thing[at] < thing[at + 1] for at in range(len(thing) - 1)])


def wrapped(number):
    """The NUMBER to which an integer is WRAPPED."""
    return (number - LEAST_NUMBER) % ALL_NUMBERS + LEAST_NUMBER
