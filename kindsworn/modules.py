"""Modules, and what they have and give."""

from kindsworn.forms import are_unlike, is_declaration, is_great, is_group, is_small, is_term
from kindsworn.shapes import every, makings


def binds_small(term):
    """Whether all lets and recs of a term bind small names alone."""
    for one in every("term", term):
        if one[0] == "let" and not is_small(one[1]):
            return False
        if one[0] == "rec" and not all([is_small(name) for name, _ in one[1]]):
            return False
    return True


def is_inner_term(thing):
    """Whether a thing is a TERM that may stand in a module."""
    return is_term(thing) and binds_small(thing)


def is_kind_item(thing):
    """Whether a thing of two is an ITEM that declares a kind."""
    if not is_declaration(thing[1]) or not is_great(thing[1][0]):
        return False
    return all([is_great(maker) for maker, _ in thing[1][2]])


def is_rec_item(thing):
    """Whether a thing of two is an ITEM with a group."""
    if not is_group(thing[1]):
        return False
    return all([is_small(name) and is_inner_term(function) for name, function in thing[1]])


def is_item(thing):
    """Whether a thing is an ITEM."""
    if not isinstance(thing, tuple) or len(thing) < 2 or not isinstance(thing[0], str):
        return False
    if thing[0] == "kind":
        return len(thing) == 2 and is_kind_item(thing)
    if thing[0] == "let":
        return len(thing) == 3 and is_small(thing[1]) and is_inner_term(thing[2])
    return thing[0] == "rec" and len(thing) == 2 and is_rec_item(thing)


def is_give(thing):
    """Whether a thing is a GIVE."""
    if not isinstance(thing, tuple) or len(thing) != 2 or not isinstance(thing[0], str):
        return False
    return is_small(thing[1]) if thing[0] == "value" else thing[0] in ("kind", "open") and is_great(thing[1])


def is_module(thing):
    """Whether a thing is a MODULE."""
    if not isinstance(thing, tuple) or len(thing) != 4 or not is_great(thing[0]):
        return False
    name, uses, items, gives = thing
    if not isinstance(uses, tuple) or not isinstance(items, tuple) or not isinstance(gives, tuple):
        return False
    if not all([is_great(other) for other in uses]) or not are_unlike([name] + list(uses)):
        return False
    return all([is_item(item) for item in items]) and all([is_give(give) for give in gives]) and are_unlike(list(gives))


def things_of(module):
    """The tuples (sort, name) of the values, kind names and makers of a module, in the order of its text."""
    found = []
    for item in module[2]:
        if item[0] == "let":
            found.append(("value", item[1]))
        elif item[0] == "rec":
            found.extend([("value", name) for name, _ in item[1]])
        else:
            found.append(("kind", item[1][0]))
            found.extend([("maker", maker) for maker, _ in item[1][2]])
    return found


def names_of_sort(module, sort):
    """The ascending tuple of what a module has of a sort."""
    return tuple(sorted({name for other, name in things_of(module) if other == sort}))


def values_of(module):
    """The values of a module, ascending."""
    return names_of_sort(module, "value")


def module_kinds(module):
    """The kind names of a module, ascending."""
    return names_of_sort(module, "kind")


def makers_in(module):
    """The makers of a module, ascending."""
    return names_of_sort(module, "maker")


def given_values(module):
    """The values that a module has and gives, ascending."""
    return tuple([name for name in values_of(module) if ("value", name) in module[3]])


def given_kinds(module):
    """The kind names that a module has and gives, ascending."""
    return tuple([name for name in module_kinds(module) if ("kind", name) in module[3] or ("open", name) in module[3]])


def given_makers(module):
    """The makers that a module has and gives, ascending."""
    declared = [item[1] for item in module[2] if item[0] == "kind"]
    given = {maker for name, _, makers in declared if ("open", name) in module[3] for maker, _ in makers}
    return tuple(sorted(given))


def words_in_kind(kind):
    """The kind names that stand in a kind."""
    return [one[1] for one in every("kind", kind) if one[0] == "of"]


def words_in_term(term):
    """The names and makers that stand in a term, not those that it binds."""
    names = [one[1] for one in every("term", term) if one[0] == "name"]
    return names + [maker for maker, _ in makings(term)]


def words_in_item(item):
    """The names, makers and kind names that stand in an item, not those that are its own."""
    if item[0] == "let":
        return words_in_term(item[2])
    found = []
    if item[0] == "rec":
        for _, function in item[1]:
            found.extend(words_in_term(function))
    else:
        for _, kind in item[1][2]:
            found.extend([] if kind is None else words_in_kind(kind))
    return found


def outer_names(module):
    """The names, makers and kind names with a point that stand in a module, ascending."""
    return tuple(sorted({word for item in module[2] for word in words_in_item(item) if "." in word}))
