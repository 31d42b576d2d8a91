"""Modules joined to one program."""

from kindsworn.errors import Hidden, NoModule, NoName, NotFit, NoValues, Twice, UseRing
from kindsworn.modules import given_kinds, given_makers, given_values, things_of, values_of
from kindsworn.shapes import bound_by, inner, joined_names, valueless, with_inner


def modules_by_name(modules):
    """The dict of modules from their names."""
    known = {}
    doubles = []
    for module in modules:
        if module[0] in known:
            doubles.append(module[0])
        known[module[0]] = module
    if len(doubles) > 0:
        other = min(doubles)
        raise Twice(other, other)
    return known


def order_of(modules, name):
    """The names of all modules that are needed, each behind those that it uses."""
    known = modules_by_name(modules)
    if name not in known:
        raise NoModule(name, name)
    done = []
    way = [name]
    ahead = [list(known[name][1][::-1])]
    while len(way) > 0:
        if len(ahead[-1]) == 0:
            ahead.pop()
            done.append(way.pop())
            continue
        other = ahead[-1].pop()
        if other in way:
            raise UseRing(tuple(way[way.index(other):]))
        if other not in known:
            raise NoModule(way[-1], other)
        if other not in done:
            way.append(other)
            ahead.append(list(known[other][1][::-1]))
    return tuple(done)


def check_unlike(module):
    """Raises Twice if two things of one sort are called the same."""
    met = {}
    for thing in things_of(module):
        if thing in met:
            raise Twice(module[0], thing[1])
        met[thing] = True


class Scope:
    """What can be named in a module: dicts from the words that stand there to what stands in the program.

    names: to names of values. makers: to tuples of a maker and of whether it has a kind. kinds: to tuples of a
    kind name and its number of parameters. The module's own values come as its items are gone through.
    """

    def __init__(self, module, known):
        self.module = module[0]
        self.names = {}
        self.makers = {}
        self.kinds = {}
        for use in module[1]:
            for name in given_values(known[use]):
                self.names[f"{use}.{name}"] = f"{use}.{name}"
            self.take_kinds(known[use], f"{use}.", given_kinds(known[use]), given_makers(known[use]))
        own = [word for _, word in things_of(module)]
        self.take_kinds(module, "", own, own)

    def take_kinds(self, module, ahead, kinds, makers):
        """Those kinds and makers of a module that are among some can be named by words with this ahead."""
        for _, (kind, many, rows) in [item for item in module[2] if item[0] == "kind"]:
            if kind in kinds:
                self.kinds[ahead + kind] = (f"{module[0]}.{kind}", many)
            for maker, within in rows:
                if maker in makers:
                    self.makers[ahead + maker] = (f"{module[0]}.{maker}", within is not None)

    def take_values(self, names):
        """From here on the module's own values of these names can be named."""
        for name in names:
            self.names[name] = f"{self.module}.{name}"

    def missed(self, word):
        """Nothing that can be named is called so."""
        if "." in word:
            raise Hidden(self.module, word)
        raise NoName(self.module, word)

    def value_named(self, word):
        """By which name a value stands in the program."""
        if word not in self.names:
            self.missed(word)
        return self.names[word]

    def maker_named(self, word, is_filled):
        """By which name a maker stands in the program."""
        if word not in self.makers:
            self.missed(word)
        maker, takes = self.makers[word]
        if takes != is_filled:
            raise NotFit(self.module, word)
        return maker

    def kind_named(self, word, many):
        """By which name a kind name stands in the program."""
        if word not in self.kinds:
            self.missed(word)
        kind, takes = self.kinds[word]
        if takes != many:
            raise NotFit(self.module, word)
        return kind


def full_kind(scope, kind):
    """The kind of a module as it stands in the program."""
    if kind[0] == "of":
        kind = ("of", scope.kind_named(kind[1], len(kind[2])), kind[2])
    parts = []
    for part in inner("kind", kind):
        parts.append(full_kind(scope, part))
    return with_inner("kind", kind, parts)


def full_pattern(scope, pattern):
    """The pattern of a module as it stands in the program."""
    if pattern[0] == "make":
        pattern = ("make", scope.maker_named(pattern[1], pattern[2] is not None), pattern[2])
    parts = []
    for part in inner("pattern", pattern):
        parts.append(full_pattern(scope, part))
    return with_inner("pattern", pattern, parts)


def full_term(scope, term, bound):
    """The term of a module, in which the names of a dict are bound around, as it stands in the program."""
    if term[0] == "name":
        return term if term[1] in bound else ("name", scope.value_named(term[1]))
    if term[0] == "make":
        term = ("make", scope.maker_named(term[1], term[2] is not None), term[2])
    parts = []
    patterns = []
    for index, part in enumerate(inner("term", term)):
        # Words are gone through in the order of the text: a row's pattern is ahead of its body.
        if term[0] == "match" and index > 0:
            patterns.append(full_pattern(scope, term[2][index - 1][0]))
        parts.append(full_term(scope, part, joined_names(bound, bound_by(term, index))))
    if term[0] == "match":
        return ("match", parts[0], tuple(zip(patterns, parts[1:])))
    return with_inner("term", term, parts)


def full_declaration(scope, declaration):
    """The declaration of a module as it stands in the program."""
    name, many, rows = declaration
    makers = []
    for maker, kind in rows:
        makers.append((f"{scope.module}.{maker}", None if kind is None else full_kind(scope, kind)))
    return (f"{scope.module}.{name}", many, tuple(makers))


def full_item(scope, item):
    """An item as it stands in the program: a kind, or the beginning of a let or a rec."""
    if item[0] == "kind":
        return ("kind", full_declaration(scope, item[1]))
    if item[0] == "let":
        one = full_term(scope, item[2], {})
        scope.take_values([item[1]])
        return ("let", scope.value_named(item[1]), one)
    scope.take_values([name for name, _ in item[1]])
    group = []
    for name, function in item[1]:
        group.append((scope.value_named(name), full_term(scope, function, {})))
    return ("rec", tuple(group))


def full_items(known, names):
    """The items of all modules of these names as they stand in the program."""
    items = []
    for name in names:
        check_unlike(known[name])
        scope = Scope(known[name], known)
        for item in known[name][2]:
            items.append(full_item(scope, item))
        # The modules ahead have none of these, so the first one is of this module.
        lacking = valueless([item[1] for item in items if item[0] == "kind"])
        if len(lacking) > 0:
            raise NoValues(name, lacking[0].split(".")[1])
    return items


def joined(modules, name):
    """The PROGRAM of modules that begins with the module of a name."""
    names = order_of(modules, name)
    known = modules_by_name(modules)
    items = full_items(known, names)
    if "main" not in values_of(known[name]):
        raise NoName(name, "main")
    term = ("name", f"{name}.main")
    for item in items[::-1]:
        if item[0] != "kind":
            term = item + (term,)
    return (tuple([item[1] for item in items if item[0] == "kind"]), term)


def nest_of(modules, name):
    """What items_at tells, and the place in the midst of the nest."""
    joined(modules, name)
    known = modules_by_name(modules)
    found = []
    place = ()
    for one in order_of(modules, name):
        for index, item in enumerate(known[one][2]):
            if item[0] != "kind":
                found.append((one, index, place))
                place = place + ((1,) if item[0] == "let" else (len(item[1]),))
    return (found, place)


def items_at(modules, name):
    """The tuples (module's name, index of an item, place) of each let and rec of the nest, from outside."""
    return nest_of(modules, name)[0]


def owner(items, midst, place):
    """What whose tells of a PLACE, by what nest_of tells."""
    if place == midst:
        return None
    ahead = [item for item in items if place[:len(item[2])] == item[2]]
    one, index, around = ahead[-1]
    return (one, index, place[len(around):])


def owners(modules, name, lot):
    """The tuple of what whose tells of each PLACE of a lot."""
    items, midst = nest_of(modules, name)
    return tuple([owner(items, midst, place) for place in lot])


def whose(modules, name, place):
    """The module's name, the item's index, and the rest of a PLACE behind that of the item; None for the midst."""
    return owners(modules, name, (place,))[0]
