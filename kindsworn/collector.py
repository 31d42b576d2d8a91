"""What is reached in a heap, and collections."""

from kindsworn.heap import object_at, read_header, size_at


def reached(heap, roots):
    """The addresses of all objects that are REACHED from roots, ascending."""
    found = {}
    todo = list(roots)
    while len(todo) > 0:
        word = todo.pop()
        if word % 2 == 0 and word // 2 not in found:
            found[word // 2] = True
            todo.extend(object_at(heap, word // 2)[2])
    return tuple(sorted(found))


def reached_words(heap, roots):
    """How many words all objects that are REACHED have together."""
    return sum([size_at(heap, address) for address in reached(heap, roots)])


class Moving:
    """Moves objects, one behind the other.

    words: those that are there, the first one of which has the address start. moved: the words of what is moved, the
    first one of which gets the address target. found: the dict from old addresses to new ones.
    """

    def __init__(self, words, start, target):
        self.words = words
        self.start = start
        self.target = target
        self.moved = []
        self.found = {}

    def moved_word(self, word):
        """The word with its new address; what it is the address of gets its place if it is met for the first time."""
        if word % 2 == 1:
            return word
        address = word // 2
        if address not in self.found:
            self.found[address] = self.target + len(self.moved)
            at = address - self.start
            self.moved.extend(list(self.words[at:at + size_at(self.words, at)]))
        return 2 * self.found[address]

    def move(self, roots):
        """Moves all that is reached from roots; tells these with their new addresses."""
        told = [self.moved_word(word) for word in roots]
        at = 0
        while at < len(self.moved):
            behind = at + 1 + read_header(self.moved[at])[2]
            for field in range(at + 1, behind):
                self.moved[field] = self.moved_word(self.moved[field])
            at = behind
        return told


def collected(heap, room, half, roots):
    """The tuple (heap, free, roots) behind a collection of a heap, in one half of which all objects stand."""
    target = (1 - half) * room
    moving = Moving(heap, 0, target)
    told = tuple(moving.move(roots))
    filled = tuple(moving.moved) + (0,) * (room - len(moving.moved))
    empty = (0,) * room
    return (filled + empty if half == 1 else empty + filled, target + len(moving.moved), told)
