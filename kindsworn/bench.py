"""A bench with modules and oaths, and what it tells."""

from kindsworn.checker import scheme_of_program
from kindsworn.errors import Broken, Hidden, NoIndex, NoModule, NoName, Nothing, NotFit, NotTyped, NotWhole, NoValues
from kindsworn.errors import TooGreat, Twice, Untaken, UseRing, Wrong
from kindsworn.forms import is_great, is_integer, is_name, is_scheme
from kindsworn.joining import joined, modules_by_name, owners
from kindsworn.moduletexts import read_modules, show_modules
from kindsworn.schemes import is_more_general
from kindsworn.sidebyside import ends_alike
from kindsworn.taking import taken


def joining_of(modules, name):
    """The tuple ("joined", program), or what verdict tells if joined raises an error."""
    try:
        return ("joined", joined(modules, name))
    except Twice as twice:
        return ("joining", "Twice", (twice.module, twice.name))
    except NoModule as lacking:
        return ("joining", "NoModule", (lacking.module, lacking.name))
    except UseRing as ring:
        return ("joining", "UseRing", (ring.names,))
    except NoName as unknown:
        return ("joining", "NoName", (unknown.module, unknown.name))
    except Hidden as hidden:
        return ("joining", "Hidden", (hidden.module, hidden.name))
    except NotFit as unfit:
        return ("joining", "NotFit", (unfit.module, unfit.name))
    except NoValues as empty:
        return ("joining", "NoValues", (empty.module, empty.name))


def with_main(modules, name):
    """The tuple of the modules of a dict, and of one more whose main is a name with a point; and its own name."""
    number = 0
    while f"A{number}" in modules:
        number += 1
    main = (f"A{number}", (name.split(".")[0],), (("let", "main", ("name", name)),), ())
    return (tuple(list(modules.values())) + (main,), main[0])


def scheme_among(modules, name):
    """The SCHEME OF a name at the modules of a dict, None if there is none."""
    if name.split(".")[0] not in modules:
        return None
    more, main = with_main(modules, name)
    told = joining_of(more, main)
    if told[0] == "joining":
        return None
    try:
        return scheme_of_program(told[1])
    except TooGreat:
        return None


def is_kept(modules, oath):
    """Whether an OATH is KEPT at the modules of a dict."""
    scheme = scheme_among(modules, oath[0])
    return scheme is not None and is_more_general(scheme, oath[1])


def check_oaths(modules, oaths):
    """Raises Broken if an OATH is not KEPT at the modules of a dict."""
    for index, oath in enumerate(oaths):
        if not is_kept(modules, oath):
            raise Broken(index)


class Bench:
    """Modules, and oaths on the schemes of what they give.

    known has the modules by their names, ascending; it, and the list sworn, are exchanged for others, never changed
    themselves. past has those that were there ahead of each call that can be taken back.
    """

    def __init__(self):
        self.known = {}
        self.sworn = []
        self.past = []

    def __eq__(self, other):
        return isinstance(other, Bench) and self.known == other.known and self.sworn == other.sworn

    def go_on(self, modules, oaths):
        """From here on there are these modules and these oaths."""
        self.past.append((self.known, self.sworn))
        self.known = {name: modules[name] for name in sorted(modules)}
        self.sworn = oaths

    def put(self, text):
        """Puts the modules of a text on the bench, each in the place of that of its name."""
        modules = {**self.known, **modules_by_name(read_modules(text))}
        check_oaths(modules, self.sworn)
        self.go_on(modules, self.sworn)

    def take(self, name):
        """Takes the module of a name out."""
        if not is_great(name):
            raise Wrong(0)
        if name not in self.known:
            raise NoModule(name, name)
        modules = {other: self.known[other] for other in self.known if other != name}
        check_oaths(modules, self.sworn)
        self.go_on(modules, self.sworn)

    def swear(self, name, scheme):
        """Puts an OATH behind the others."""
        if not is_name(name) or "." not in name:
            raise Wrong(0)
        if not is_scheme(scheme):
            raise Wrong(1)
        oaths = self.sworn + [(name, scheme)]
        check_oaths(self.known, oaths)
        self.go_on(self.known, oaths)

    def free(self, index):
        """Takes the OATH with an index out."""
        if not is_integer(index):
            raise Wrong(0)
        if not 0 <= index < len(self.sworn):
            raise NoIndex(index)
        self.go_on(self.known, self.sworn[:index] + self.sworn[index + 1:])

    def undo(self):
        """Takes back what was done last."""
        if len(self.past) == 0:
            raise Nothing()
        modules, oaths = self.past.pop()
        self.known = modules
        self.sworn = oaths

    def twin(self):
        """An independent Bench in the same state, with what can be taken back."""
        other = Bench()
        other.known = self.known
        other.sworn = self.sworn
        other.past = list(self.past)
        return other

    def texts(self):
        """The dict from the names of all modules to their texts."""
        return {name: show_modules((module,)) for name, module in self.known.items()}

    def oaths(self):
        """The list of the OATHS."""
        return list(self.sworn)

    def modules_held(self):
        """The tuple of the modules."""
        return tuple(list(self.known.values()))


def verdict(bench, name):
    """What is told of the program that begins with the module of a name."""
    modules = bench.modules_held()
    told = joining_of(modules, name)
    if told[0] == "joining":
        return told
    try:
        return ("taken", taken(told[1]))
    except NotTyped as untyped:
        return ("kinds", owners(modules, name, untyped.lot))
    except TooGreat:
        return ("great",)
    except NotWhole as unwhole:
        return ("match", owners(modules, name, (unwhole.place,))[0], unwhole.pattern)


def scheme_at(bench, name):
    """The SCHEME OF a name with a point at a bench, None if there is none."""
    return scheme_among(bench.known, name)


def run_at(bench, name, room, plan, most):
    """How the program of a name ends."""
    if verdict(bench, name)[0] != "taken":
        raise Untaken()
    return ends_alike(joined(bench.modules_held(), name), room, plan, most)
