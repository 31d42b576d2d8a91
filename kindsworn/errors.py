"""The errors that the program raises."""


class SwornError(ValueError):
    """What all errors of the program have in common; raised nowhere itself."""


class Broken(SwornError):
    """An oath would not be kept."""

    def __init__(self, index):
        self.index = index


class Hidden(SwornError):
    """A name with a point is not given, or its module is not used."""

    def __init__(self, module, name):
        self.module = module
        self.name = name


class NoIndex(SwornError):
    """There is nothing with this index."""

    def __init__(self, index):
        self.index = index


class NoModule(SwornError):
    """A module uses one that is not there."""

    def __init__(self, module, name):
        self.module = module
        self.name = name


class NoName(SwornError):
    """Nothing that can be named here is called so."""

    def __init__(self, module, name):
        self.module = module
        self.name = name


class NoText(SwornError):
    """A text tells nothing from this place on."""

    def __init__(self, line, column):
        self.line = line
        self.column = column


class NoValues(SwornError):
    """A declared kind has no values."""

    def __init__(self, module, name):
        self.module = module
        self.name = name


class NotFit(SwornError):
    """A maker or a kind name stands with more, or less, than it takes."""

    def __init__(self, module, name):
        self.module = module
        self.name = name


class NotKind(SwornError):
    """What a text tells is no kind."""

    def __init__(self):
        """Nothing is kept."""


class NotProgram(SwornError):
    """What a text tells is no program."""

    def __init__(self):
        """Nothing is kept."""


class NotTyped(SwornError):
    """A program has no kind: these places alone cannot have kinds."""

    def __init__(self, lot):
        self.lot = lot


class NotWhole(SwornError):
    """A match forgets what this pattern matches."""

    def __init__(self, place, pattern):
        self.place = place
        self.pattern = pattern


class Nothing(SwornError):
    """There is nothing to take back."""

    def __init__(self):
        """Nothing is kept."""


class Stuck(SwornError):
    """A state has no next one, and is not the end."""

    def __init__(self):
        """Nothing is kept."""


class TooGreat(SwornError):
    """A kind would have more parts than so many, or be too deep."""

    def __init__(self, most):
        self.most = most


class TooMany(SwornError):
    """There would be more than so many."""

    def __init__(self, most):
        self.most = most


class Twice(SwornError):
    """Two things of one sort are called the same."""

    def __init__(self, module, name):
        self.module = module
        self.name = name


class Untaken(SwornError):
    """A program is not taken."""

    def __init__(self):
        """Nothing is kept."""


class UseRing(SwornError):
    """Modules use one another in a ring."""

    def __init__(self, names):
        self.names = names


class Wrong(SwornError):
    """The argument at this place is not as described."""

    def __init__(self, place):
        self.place = place
