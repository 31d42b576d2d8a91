"""The words of a text."""

from kindsworn.errors import NoText, Wrong
from kindsworn.forms import BARRED, GREATEST_NUMBER, GREAT_LETTERS, LEAST_NUMBER, LONGEST_NAME, MOST_PARTS
from kindsworn.forms import NAME_SIGNS, is_label

LETTERS = "abcdefghijklmnopqrstuvwxyzABCDEFGHIJKLMNOPQRSTUVWXYZ"
DIGITS = "0123456789"
WORD_SIGNS = "-=<+*(){},.|:_"
MOST_DIGITS = 9
LONGEST_NUMBER = 10


def run_end(text, at, signs):
    """Where the characters among some end that stand one behind the other from an index on."""
    end = at
    while end < len(text) and text[end] in signs:
        end += 1
    return end


def name_end(text, at):
    """Where the name that begins at an index ends; a great one goes on over a point, once."""
    end = run_end(text, at, NAME_SIGNS)
    goes_on = text[at] in GREAT_LETTERS and text[end:end + 1] == "." and end + 1 < len(text)
    if goes_on and text[end + 1] in LETTERS:
        return run_end(text, end + 1, NAME_SIGNS)
    return end


def word_end(text, at):
    """Where the word that begins at an index ends: there itself if none does."""
    sign = text[at]
    if sign in LETTERS:
        return name_end(text, at)
    if sign in DIGITS:
        return run_end(text, at, DIGITS)
    if sign == "~" or sign == "?":
        end = run_end(text, at + 1, DIGITS)
        return end if end > at + 1 else at
    if text[at:at + 2] == "->":
        return at + 2
    return at + 1 if sign in WORD_SIGNS else at


def are_plain_digits(digits):
    """Whether digits have no needless zero."""
    return digits == "0" or digits[0] != "0"


def is_number_word(word):
    """Whether digits, perhaps with ~ ahead, are a number."""
    digits = word[1:] if word[0] == "~" else word
    if not are_plain_digits(digits) or len(digits) > LONGEST_NUMBER or word == "~0":
        return False
    return LEAST_NUMBER <= number_told(word) <= GREATEST_NUMBER


def number_told(word):
    """The number that a word tells."""
    return -int(word[1:]) if word[0] == "~" else int(word)


def name_fault(word):
    """At which of its characters a name is none, None if it is one."""
    at = 0
    for side in word.split("."):
        if len(side) > LONGEST_NAME or (at > 0 and side in BARRED):
            return at
        at += len(side) + 1
    return None


def fault_in(word):
    """At which of its characters what looks like a word is none, None if it is one."""
    if word == "":
        return 0
    if word[0] in LETTERS:
        return name_fault(word)
    if word[0] == "?":
        return None if len(word) <= MOST_DIGITS + 1 and are_plain_digits(word[1:]) else 0
    if word[0] == "~" or word[0] in DIGITS:
        return None if is_number_word(word) else 0
    return None


def words_of(text):
    """The tuples (word, line, column) of the words of a text, in their order."""
    if not isinstance(text, str):
        raise Wrong(0)
    words = []
    line = 0
    for row in text.split("\n"):
        at = 0
        while at < len(row) and row[at] != "#":
            if row[at] == " ":
                at += 1
                continue
            end = word_end(row, at)
            fault = fault_in(row[at:end])
            if fault is not None:
                raise NoText(line, at + fault)
            words.append((row[at:end], line, at))
            at = end
        line += 1
    return words


class Reading:
    """The words of a text that is read, and what has to be known of those that were read.

    small: let and rec bind small names alone. many: how many parameters the variables of kinds have to be among,
    None if they may be any. parts: how many parts the kind of a maker has at least. names: those that the pattern
    that is read binds.
    """

    def __init__(self, text):
        self.text = text
        self.words = words_of(text)
        self.at = 0
        self.small = False
        self.many = None
        self.parts = 0
        self.names = []

    def look(self):
        """The word that is to be read, an empty one at the end."""
        return self.words[self.at][0] if self.at < len(self.words) else ""

    def step(self):
        """The word is read."""
        self.at += 1

    def fail(self):
        """The word is bad, or lacks."""
        if self.at < len(self.words):
            raise NoText(self.words[self.at][1], self.words[self.at][2])
        rows = self.text.split("\n")
        raise NoText(len(rows) - 1, len(rows[-1]))

    def take(self, word):
        """Just this word is read."""
        if self.look() != word:
            self.fail()
        self.step()

    def finish(self):
        """No word is left."""
        if self.at < len(self.words):
            self.fail()

    def more_parts(self, many):
        """The word tells of so many parts more: no kind of a module goes beyond its bound."""
        self.parts += many
        if self.many is not None and self.parts > MOST_PARTS:
            self.fail()

    def read_tuple(self, read_part):
        """What stands in parentheses: a tuple, or what read_part reads, alone."""
        self.take("(")
        if self.look() == ")":
            self.step()
            return ("tuple", ())
        parts = [read_part(self)]
        if self.look() == ",":
            self.more_parts(1)
        while self.look() == ",":
            self.more_parts(1)
            self.step()
            parts.append(read_part(self))
        self.take(")")
        return parts[0] if len(parts) == 1 else ("tuple", tuple(parts))

    def read_fields(self, sign, read_part):
        """At least one field: a label, the sign, and what read_part reads."""
        fields = []
        self.more_parts(1)
        while True:
            label = self.look()
            if not is_label(label) or (len(fields) > 0 and label <= fields[-1][0]):
                self.fail()
            self.step()
            self.take(sign)
            fields.append((label, read_part(self)))
            if self.look() != ",":
                return tuple(fields)
            self.more_parts(1)
            self.step()
