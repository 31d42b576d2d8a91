"""Texts of kinds, patterns, terms and programs."""

from kindsworn.reader import CALL_LEVEL, SIGN_LEVELS
from kindsworn.shapes import inner

# Levels of kinds: 0 for k -> l, 1 for what is made of others by words alone, 2 for what binds most.
CLOSE_KIND = 2
# Levels of patterns: 0 for Maker p, 1 for all others. Levels of terms: as the document tells them.
CLOSE_PATTERN = 1
CLOSE_TERM = 5
CLOSED_TERM = 6
LEFT_WANTS = {"<": 2, "=": 2, "+": 2, "-": 2, "*": 3}
NO_BLANK_BEHIND = ("(", "{", ".")
NO_BLANK_AHEAD = (")", "}", ",", ":", ".")


def number_word(number):
    """The word of a number."""
    return str(number) if number >= 0 else f"~{-number}"


def truth_word(truth):
    """The word of a truth."""
    return "true" if truth else "false"


def with_commas(rows):
    """The pieces of several rows of pieces, with a comma between two."""
    pieces = []
    for at, row in enumerate(rows):
        if at > 0:
            pieces.append(",")
        pieces.extend(row)
    return pieces


def tuple_pieces(sort, parts):
    """The pieces of a tuple."""
    return ["("] + with_commas([[(sort, part, 0)] for part in parts]) + [")"]


def field_pieces(sort, sign, fields):
    """The pieces of the fields of a record."""
    return with_commas([[label, sign, (sort, part, 0)] for label, part in fields])


def kind_level(kind):
    """The level of a kind."""
    if kind[0] == "to":
        return 0
    if kind[0] == "cell" or (kind[0] == "of" and len(kind[2]) > 0):
        return 1
    return CLOSE_KIND


def kind_pieces(kind):
    """The pieces of a kind."""
    if kind[0] == "to":
        return [("kind", kind[1], 1), "->", ("kind", kind[2], 0)]
    if kind[0] == "tuple":
        return tuple_pieces("kind", kind[1])
    if kind[0] == "record":
        rest = [] if kind[2] is None else ["|", f"?{kind[2][1]}"]
        return ["{"] + field_pieces("kind", ":", kind[1]) + rest + ["}"]
    if kind[0] == "var":
        return [f"?{kind[1]}"]
    head = kind[1] if kind[0] == "of" else kind[0]
    return [head] + [("kind", part, CLOSE_KIND) for part in inner("kind", kind)]


def pattern_level(pattern):
    """The level of a pattern."""
    return 0 if pattern[0] == "make" and pattern[2] is not None else CLOSE_PATTERN


def constant_word(thing):
    """The word of a number or a truth."""
    return number_word(thing[1]) if thing[0] == "num" else truth_word(thing[1])


def pattern_pieces(pattern):
    """The pieces of a pattern."""
    if pattern[0] == "any":
        return ["_"]
    if pattern[0] == "bind":
        return [pattern[1]]
    if pattern[0] in ("num", "truth"):
        return [constant_word(pattern)]
    if pattern[0] == "tuple":
        return tuple_pieces("pattern", pattern[1])
    if pattern[0] == "record":
        return ["{"] + field_pieces("pattern", "=", pattern[1]) + ["}"]
    return [pattern[1]] + [("pattern", part, CLOSE_PATTERN) for part in inner("pattern", pattern)]


def term_level(term):
    """The LEVEL of a term."""
    if term[0] in ("fn", "let", "rec", "if"):
        return 0
    if term[0] == "op":
        return SIGN_LEVELS[term[1]]
    if term[0] in ("call", "new", "get", "put", "tell") or (term[0] == "make" and term[2] is not None):
        return CALL_LEVEL
    return CLOSE_TERM if term[0] in ("field", "make") else CLOSED_TERM


def group_pieces(group):
    """The pieces of the group of a rec."""
    pieces = []
    for at, row in enumerate(group):
        pieces.extend(["rec" if at == 0 else "and", row[0], "=", ("term", row[1], 0)])
    return pieces


def loose_pieces(term):
    """The pieces of a term of the level 0."""
    if term[0] == "fn":
        return ["fn", term[1], "->", ("term", term[2], 0)]
    if term[0] == "let":
        return ["let", term[1], "=", ("term", term[2], 0), "in", ("term", term[3], 0)]
    if term[0] == "rec":
        return group_pieces(term[1]) + ["in", ("term", term[2], 0)]
    return ["if", ("term", term[1], 0), "then", ("term", term[2], 0), "else", ("term", term[3], 0)]


def tight_pieces(term):
    """The pieces of a term of the level 4 or 5, or of a sign."""
    if term[0] == "op":
        other = ("term", term[3], SIGN_LEVELS[term[1]] + 1)
        return [("term", term[2], LEFT_WANTS[term[1]]), term[1], other]
    if term[0] == "call":
        wants = 0 if term[1][0] in ("call", "field") else CLOSED_TERM
        return [("term", term[1], wants), ("term", term[2], CLOSE_TERM)]
    if term[0] == "field":
        wants = 0 if term[1][0] == "field" else CLOSED_TERM
        return [("term", term[1], wants), ".", term[2]]
    head = term[1] if term[0] == "make" else term[0]
    return [head] + [("term", part, CLOSE_TERM) for part in inner("term", term)]


def closed_pieces(term):
    """The pieces of a term of the level 6."""
    if term[0] in ("num", "truth"):
        return [constant_word(term)]
    if term[0] == "name":
        return [term[1]]
    if term[0] == "tuple":
        return tuple_pieces("term", term[1])
    if term[0] == "record":
        return ["{"] + field_pieces("term", "=", term[1]) + ["}"]
    pieces = ["match", ("term", term[1], 0), "with"]
    for pattern, body in term[2]:
        pieces.extend(["|", ("pattern", pattern, 0), "->", ("term", body, 0)])
    return pieces + ["end"]


def term_pieces(term):
    """The pieces of a term."""
    level = term_level(term)
    if level == 0:
        return loose_pieces(term)
    return tight_pieces(term) if level < CLOSED_TERM else closed_pieces(term)


def piece_level(sort, thing):
    """The level of a thing of a sort."""
    if sort == "kind":
        return kind_level(thing)
    return pattern_level(thing) if sort == "pattern" else term_level(thing)


def pieces_of(sort, thing):
    """The pieces of a thing of a sort."""
    if sort == "kind":
        return kind_pieces(thing)
    return pattern_pieces(thing) if sort == "pattern" else term_pieces(thing)


def words_told(pieces):
    """The words of pieces: a piece is a word, or a tuple of a sort, a thing, and the level that its place wants."""
    words = []
    todo = pieces[::-1]
    while todo:
        piece = todo.pop()
        if isinstance(piece, str):
            words.append(piece)
            continue
        sort, thing, wants = piece
        within = pieces_of(sort, thing)
        if piece_level(sort, thing) < wants:
            within = ["("] + within + [")"]
        todo.extend(within[::-1])
    return words


def line_of(pieces):
    """The line of pieces, with blanks between words."""
    line = []
    before = "("
    for word in words_told(pieces):
        if before not in NO_BLANK_BEHIND and word not in NO_BLANK_AHEAD:
            line.append(" ")
        line.append(word)
        before = word
    return "".join(line)


def declaration_pieces(declaration):
    """The pieces of a declaration."""
    name, many, makers = declaration
    pieces = ["kind", name] + [f"?{index}" for index in range(many)]
    for at, row in enumerate(makers):
        pieces.extend(["=" if at == 0 else "|", row[0]])
        if row[1] is not None:
            pieces.append(("kind", row[1], CLOSE_KIND))
    return pieces


def show_kind(kind):
    """The text of a KIND."""
    return line_of([("kind", kind, 0)])


def show_pattern(pattern):
    """The text of a PATTERN."""
    return line_of([("pattern", pattern, 0)])


def show_term(term):
    """The text of a TERM."""
    return line_of([("term", term, 0)])


def show_program(program):
    """The text of a PROGRAM."""
    declarations, term = program
    lines = [line_of(declaration_pieces(declaration)) for declaration in declarations]
    return "\n".join(lines + [line_of(["give", ("term", term, 0)])])
