"""What a machine is at, and how objects are made in it."""

from kindsworn.collector import Moving
from kindsworn.heap import object_at, object_words
from kindsworn.words import A_PLACE, UNIT, content_of, sort_of


class Engine:
    """What the point of the machine tells, but for words of the heap that belong to no object: these are 0.

    words are those of all objects; they begin where the half begins, and stand one behind the other.
    """

    def __init__(self, code, room, plan):
        self.code_given = code
        self.room_given = room
        self.plan_given = plan
        self.place = 0
        self.hand = UNIT
        self.pile = []
        self.base = 0
        self.own = UNIT
        self.words = []
        self.half = 0
        self.objects = 0
        self.cells_made = 0
        self.told = []
        self.word = "going"

    def another(self):
        """An independent one in the same state."""
        other = Engine(self.code_given, self.room_given, self.plan_given)
        other.place = self.place
        other.hand = self.hand
        other.pile = list(self.pile)
        other.base = self.base
        other.own = self.own
        other.words = list(self.words)
        other.half = self.half
        other.objects = self.objects
        other.cells_made = self.cells_made
        other.told = list(self.told)
        other.word = self.word
        return other

    def beginning(self):
        """The address with which the half begins in which the objects stand."""
        return self.half * self.room_given

    def free_address(self):
        """The first address behind all objects."""
        return self.beginning() + len(self.words)

    def own_words(self):
        """How many OWN WORDS there are."""
        return len(self.pile) - self.base

    def object_of(self, word):
        """The tuple (sort, extra, fields) of the object of a word; None for the sort of an immediate one."""
        if sort_of(word) <= A_PLACE:
            return (None, 0, ())
        return object_at(self.words, content_of(word) - self.beginning())

    def change_field(self, word, value):
        """Gives the first field of the object of a word another value."""
        self.words[content_of(word) - self.beginning() + 1] = value

    def roots_told(self):
        """The ROOTS."""
        return (self.hand, self.own) + tuple(self.pile)

    def collect(self):
        """Does a collection."""
        other = 1 - self.half
        moving = Moving(self.words, self.beginning(), other * self.room_given)
        told = moving.move(self.roots_told())
        self.words = moving.moved
        self.half = other
        self.hand = told[0]
        self.own = told[1]
        self.pile = told[2:]

    def is_room(self, many):
        """Whether there is room enough for one more object of so many fields."""
        return len(self.words) + 1 + many <= self.room_given

    def finds_room(self, many):
        """Whether there is such room, behind a collection if the plan wants one, or there is none ahead of it.

        If there is not, this is how the run ends.
        """
        is_planned = len(self.plan_given) > 0 and self.plan_given[self.objects % len(self.plan_given)]
        if is_planned or not self.is_room(many):
            self.collect()
        if not self.is_room(many):
            self.word = "room"
        return self.word == "going"

    def put_object(self, sort, extra, fields):
        """Puts an object behind the others, and its word into the hand; tells the next place."""
        self.hand = 2 * self.free_address()
        self.words.extend(list(object_words(sort, extra, fields)))
        self.objects += 1
        return self.place + 1

    def make_of_pile(self, sort, extra, many):
        """Makes an object of the last own words; tells the next place, None if it is not done."""
        if self.own_words() < many or not self.finds_room(many):
            return None
        at = len(self.pile) - many
        fields = self.pile[at:]
        del self.pile[at:]
        return self.put_object(sort, extra, fields)

    def make_of_hand(self, sort, extra):
        """Makes an object of what is in the hand; tells the next place, None if it is not done."""
        return self.put_object(sort, extra, [self.hand]) if self.finds_room(1) else None
