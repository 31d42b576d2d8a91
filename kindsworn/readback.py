"""What a machine means: its words, its environments, its states."""

from kindsworn.heap import A_CELL, A_MAKE, A_RECORD, A_TUPLE
from kindsworn.steps import FRAME_FORMS
from kindsworn.words import A_MAKER, A_NUMBER, A_TRUTH, content_of, sort_of


class Readback:
    """Reads back the words of an engine.

    known: the dict from the words that were read to their VALUES. cells: from the numbers of the cells that were met
    to their words.
    """

    def __init__(self, engine):
        self.engine = engine
        self.known = {}
        self.cell_words = {}

    def read(self, word):
        """The VALUE that a word means."""
        todo = [word]
        while len(todo) > 0:
            one = todo[-1]
            sort, extra, fields = self.engine.object_of(one)
            lacking = [] if sort == A_CELL else [field for field in fields if field not in self.known]
            if len(lacking) > 0:
                todo.extend(lacking)
                continue
            todo.pop()
            if sort is None:
                self.known[one] = self.immediate_value(one)
            elif sort == A_CELL:
                self.cell_words[extra] = one
                self.known[one] = ("cell", extra)
            else:
                self.known[one] = self.object_value(sort, extra, [self.known[field] for field in fields])
        return self.known[word]

    def immediate_value(self, word):
        """The VALUE that an immediate word means."""
        sort = sort_of(word)
        if sort == A_NUMBER:
            return ("num", content_of(word))
        if sort == A_TRUTH:
            return ("truth", content_of(word) == 1)
        if sort == A_MAKER:
            return ("make", self.engine.code_given[3][content_of(word)], None)
        return ("tuple", ())

    def object_value(self, sort, extra, parts):
        """The VALUE that an object means, whose fields mean these."""
        if sort == A_TUPLE:
            return ("tuple", tuple(parts))
        if sort == A_RECORD:
            return ("record", tuple(zip(self.engine.code_given[2][extra], parts)))
        if sort == A_MAKE:
            return ("make", self.engine.code_given[3][extra], parts[0])
        return self.function_value(extra, parts)

    def function_value(self, function, parts):
        """The closure, or the loop, of a function, the names that it captures standing for these values."""
        _, sort, names = self.engine.code_given[1][function]
        return sort + (tuple(zip(names, parts)),)

    def word_where(self, base, own, where):
        """The word at a WHERE that is no sibling."""
        if where[0] == "local":
            return self.engine.pile[base + where[1]]
        if where[0] == "captured":
            return self.engine.object_of(own)[2][where[1]]
        return own

    def read_where(self, base, own, where):
        """The VALUE of what is at a WHERE."""
        if where[0] != "sibling":
            return self.read(self.word_where(base, own, where))
        return self.function_value(where[1], [self.read(field) for field in self.engine.object_of(own)[2]])

    def read_env(self, base, own, wheres):
        """The ENV of tuples of names and WHERES."""
        return tuple([(name, self.read_where(base, own, where)) for name, where in wheres])

    def read_slot(self, base, slot):
        """The VALUE of an own word."""
        return self.read(self.engine.pile[base + slot[1]])

    def read_frame(self, base, own, frame):
        """The FRAME that one of a NOTE means in an activation."""
        told = [frame[0]]
        for form, thing in zip(FRAME_FORMS[frame[0]], frame[1:]):
            if form == "env":
                told.append(self.read_env(base, own, thing))
            elif form == "value":
                told.append(self.read_slot(base, thing))
            elif form == "values":
                told.append(tuple([self.read_slot(base, slot) for slot in thing]))
            else:
                told.append(thing)
        return tuple(told)

    def read_control(self, base, own, doing):
        """The control that is meant by what a NOTE tells of its row."""
        if doing[0] == "do":
            return ("do", doing[1], self.read_env(base, own, doing[2]))
        return ("give", self.read_slot(base, doing) if len(doing) > 1 else self.read(self.engine.hand))

    def read_cells(self):
        """What all cells have that are met, and those that are met in these, and so on."""
        found = {}
        while len(found) < len(self.cell_words):
            for number in sorted(self.cell_words):
                if number not in found:
                    found[number] = self.read(self.engine.object_of(self.cell_words[number])[2][0])
        return tuple([(number, found[number]) for number in sorted(found)])


def all_activations(engine):
    """What activations tells of the machine of an engine."""
    found = [(engine.place, engine.base, engine.own)]
    while found[-1][1] > 0:
        base = found[-1][1]
        place, below, own = engine.pile[base - 3:base]
        found.append((content_of(place), content_of(below), own))
    return found


def state_meant(engine):
    """The STATE that the machine of an engine MEANS."""
    readback = Readback(engine)
    notes = engine.code_given[4]
    control = readback.read_control(engine.base, engine.own, notes[engine.place][0])
    frames = []
    for place, base, own in all_activations(engine):
        for frame in notes[place][1]:
            frames.append(readback.read_frame(base, own, frame))
    return (control, tuple(frames), readback.read_cells(), tuple(engine.told))


def value_of(machine, word):
    """The VALUE that a word of a machine means."""
    return Readback(machine.engine).read(word)


def word_at(machine, base, own, where):
    """The word at a WHERE in an activation with this base and this own closure."""
    return Readback(machine.engine).word_where(base, own, where)


def env_of(machine, base, own, wheres):
    """The ENV of tuples of names and WHERES in an activation with this base and this own closure."""
    return Readback(machine.engine).read_env(base, own, wheres)


def activations(machine):
    """The ACTIVATIONS of a machine, the newest one first."""
    return all_activations(machine.engine)


def state_of(machine):
    """The STATE that a machine MEANS."""
    return state_meant(machine.engine)
