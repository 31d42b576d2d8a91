"""Texts of modules."""

from kindsworn.forms import is_great, is_small
from kindsworn.reader import read_binding, read_declaration, read_group
from kindsworn.shower import declaration_pieces, group_pieces, line_of, with_commas
from kindsworn.wordsof import Reading


def read_great(words, barred):
    """A great name, none of those that are barred."""
    name = words.look()
    if not is_great(name) or name in barred:
        words.fail()
    words.step()
    return name


def read_uses(words, name):
    """The uses of a module of this name."""
    words.take("use")
    uses = [read_great(words, [name])]
    while words.look() == ",":
        words.step()
        uses.append(read_great(words, [name] + uses))
    return tuple(uses)


def read_item(words):
    """An item of a module."""
    word = words.look()
    if word == "kind":
        return ("kind", read_declaration(words, True))
    return ("let",) + read_binding(words) if word == "let" else ("rec", read_group(words))


def read_kind_give(words, gives):
    """What a module gives of a kind, none of those that it gives already."""
    words.take("kind")
    shut = [name for sort, name in gives if sort == "kind"]
    bare = [name for sort, name in gives if sort == "open"]
    name = read_great(words, [name for name in shut if name in bare])
    if name not in bare and (name in shut or words.look() == "*"):
        words.take("*")
        return ("open", name)
    return ("kind", name)


def read_give(words, gives):
    """What a module gives, none of those that it gives already."""
    word = words.look()
    if word == "kind":
        return read_kind_give(words, gives)
    if not is_small(word) or ("value", word) in gives:
        words.fail()
    words.step()
    return ("value", word)


def read_gives(words):
    """The gives of a module."""
    words.take("give")
    gives = [read_give(words, [])]
    while words.look() == ",":
        words.step()
        gives.append(read_give(words, gives))
    return tuple(gives)


def read_module(words):
    """A module."""
    words.take("module")
    name = read_great(words, [])
    uses = read_uses(words, name) if words.look() == "use" else ()
    items = []
    while words.look() in ("kind", "let", "rec"):
        items.append(read_item(words))
    gives = read_gives(words) if words.look() == "give" else ()
    return (name, uses, tuple(items), gives)


def read_modules(text):
    """The MODULES that a text tells."""
    words = Reading(text)
    words.small = True
    modules = [read_module(words)]
    while words.look() == "module":
        modules.append(read_module(words))
    words.finish()
    return tuple(modules)


def item_pieces(item):
    """The pieces of an item."""
    if item[0] == "kind":
        return declaration_pieces(item[1])
    if item[0] == "let":
        return ["let", item[1], "=", ("term", item[2], 0)]
    return group_pieces(item[1])


def give_pieces(give):
    """The pieces of what a module gives."""
    if give[0] == "value":
        return [give[1]]
    return ["kind", give[1], "*"] if give[0] == "open" else ["kind", give[1]]


def module_lines(module):
    """The lines of a module."""
    name, uses, items, gives = module
    rows = [["module", name]]
    if len(uses) > 0:
        rows.append(["use"] + with_commas([[use] for use in uses]))
    rows.extend([item_pieces(item) for item in items])
    if len(gives) > 0:
        rows.append(["give"] + with_commas([give_pieces(give) for give in gives]))
    return [line_of(row) for row in rows]


def show_modules(modules):
    """The text of one or more MODULES."""
    return "\n".join([line for module in modules for line in module_lines(module)])
