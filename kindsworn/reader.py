"""Kinds, patterns, terms and programs that texts tell."""

from kindsworn.errors import NotKind, NotProgram
from kindsworn.forms import is_great, is_kind, is_label, is_maker, is_name, is_program, is_small
from kindsworn.wordsof import DIGITS, Reading, number_told

SIGN_LEVELS = {"<": 1, "=": 1, "+": 2, "-": 2, "*": 3}
CALL_LEVEL = 4


def is_number_like(word):
    """Whether a word tells a number."""
    return word[:1] == "~" or (word != "" and word[0] in DIGITS)


def read_whole_record(words, read_part):
    """A record of a term or a pattern."""
    words.take("{")
    fields = words.read_fields("=", read_part)
    words.take("}")
    return ("record", fields)


def read_variable(words):
    """A variable of a kind."""
    word = words.look()
    if word[:1] != "?":
        words.fail()
    index = int(word[1:])
    if words.many is not None and index >= words.many:
        words.fail()
    words.step()
    return ("var", index)


def read_record_kind(words):
    """The kind of a record."""
    words.take("{")
    fields = ()
    if words.look() not in ("|", "}"):
        fields = words.read_fields(":", read_any_kind)
    rest = None
    # In a module no variable may stand behind the |, so it is bad itself.
    if words.look() == "|" and words.many is None:
        words.step()
        rest = read_variable(words)
    words.take("}")
    return ("record", fields, rest)


def begins_close_kind(word):
    """Whether a kind that binds most begins with a word."""
    return word in ("num", "truth", "(", "{") or word[:1] == "?" or is_maker(word)


def read_close_kind(words):
    """A kind that binds most."""
    word = words.look()
    if word == "(":
        return words.read_tuple(read_any_kind)
    if word == "{":
        return read_record_kind(words)
    if word not in ("num", "truth") and not is_maker(word):
        return read_variable(words)
    words.step()
    return ("of", word, ()) if is_maker(word) else (word,)


def read_tight_kind(words):
    """A kind that is no k -> l but in parentheses."""
    word = words.look()
    if word == "cell":
        words.more_parts(1)
        words.step()
        return ("cell", read_close_kind(words))
    if not is_maker(word):
        return read_close_kind(words)
    words.step()
    kinds = []
    while begins_close_kind(words.look()):
        words.more_parts(1)
        kinds.append(read_close_kind(words))
    return ("of", word, tuple(kinds))


def read_any_kind(words):
    """Any kind."""
    kinds = [read_tight_kind(words)]
    while words.look() == "->":
        words.more_parts(2)
        words.step()
        kinds.append(read_tight_kind(words))
    made = kinds[-1]
    for kind in kinds[-2::-1]:
        made = ("to", kind, made)
    return made


def read_constant(words):
    """A number or a truth."""
    word = words.look()
    words.step()
    if word in ("true", "false"):
        return ("truth", word == "true")
    return ("num", number_told(word))


def is_constant(word):
    """Whether a word is a number or a truth."""
    return word in ("true", "false") or is_number_like(word)


def begins_close_pattern(word):
    """Whether a pattern that is no Maker p begins with a word."""
    return word in ("_", "(", "{") or is_constant(word) or is_small(word) or is_maker(word)


def read_close_pattern(words):
    """A pattern that is no Maker p but in parentheses."""
    word = words.look()
    if word == "(":
        return words.read_tuple(read_inner_pattern)
    if word == "{":
        return read_whole_record(words, read_inner_pattern)
    if is_constant(word):
        return read_constant(words)
    if word != "_" and not is_maker(word) and (not is_small(word) or word in words.names):
        words.fail()
    words.step()
    if word == "_":
        return ("any",)
    if is_maker(word):
        return ("make", word, None)
    words.names.append(word)
    return ("bind", word)


def read_inner_pattern(words):
    """Any pattern, the names ahead of it in the same pattern being known."""
    word = words.look()
    if not is_maker(word):
        return read_close_pattern(words)
    words.step()
    if begins_close_pattern(words.look()):
        return ("make", word, read_close_pattern(words))
    return ("make", word, None)


def read_any_pattern(words):
    """A pattern that is in no other one."""
    words.names = []
    return read_inner_pattern(words)


def is_bindable(words, word):
    """Whether a let or a rec may bind a word."""
    return is_small(word) if words.small else is_name(word)


def read_fn(words):
    """A fn."""
    words.take("fn")
    name = words.look()
    if not is_small(name):
        words.fail()
    words.step()
    words.take("->")
    return ("fn", name, read_any_term(words))


def read_binding(words):
    """The name and the one of a let."""
    words.take("let")
    name = words.look()
    if not is_bindable(words, name):
        words.fail()
    words.step()
    words.take("=")
    return (name, read_any_term(words))


def read_group(words):
    """The group of a rec."""
    words.take("rec")
    group = []
    while True:
        name = words.look()
        if not is_bindable(words, name) or name in [other for other, _ in group]:
            words.fail()
        words.step()
        words.take("=")
        group.append((name, read_fn(words)))
        if words.look() != "and":
            return tuple(group)
        words.step()


def read_if(words):
    """An if."""
    words.take("if")
    test = read_any_term(words)
    words.take("then")
    one = read_any_term(words)
    words.take("else")
    return ("if", test, one, read_any_term(words))


def read_match(words):
    """A match."""
    words.take("match")
    term = read_any_term(words)
    words.take("with")
    rows = []
    while len(rows) == 0 or words.look() == "|":
        words.take("|")
        pattern = read_any_pattern(words)
        words.take("->")
        rows.append((pattern, read_any_term(words)))
    words.take("end")
    return ("match", term, tuple(rows))


def read_loose_term(words):
    """A term of the level 0."""
    word = words.look()
    if word == "fn":
        return read_fn(words)
    if word == "if":
        return read_if(words)
    if word == "let":
        name, one = read_binding(words)
        words.take("in")
        return ("let", name, one, read_any_term(words))
    group = read_group(words)
    words.take("in")
    return ("rec", group, read_any_term(words))


def begins_close_term(word):
    """Whether a term of the level 5 or 6 begins with a word."""
    return word in ("(", "{", "match") or is_constant(word) or is_name(word) or is_maker(word)


def read_closed_term(words):
    """A term of the level 6."""
    word = words.look()
    if word == "(":
        return words.read_tuple(read_any_term)
    if word == "{":
        return read_whole_record(words, read_any_term)
    if word == "match":
        return read_match(words)
    if is_constant(word):
        return read_constant(words)
    if not is_name(word):
        words.fail()
    words.step()
    return ("name", word)


def read_close_term(words):
    """A term of the level 5 or 6."""
    word = words.look()
    if is_maker(word):
        words.step()
        return ("make", word, None)
    term = read_closed_term(words)
    while words.look() == ".":
        words.step()
        label = words.look()
        if not is_label(label):
            words.fail()
        words.step()
        term = ("field", term, label)
    return term


def read_tight_term(words):
    """A term of a level from 4 on."""
    word = words.look()
    if word in ("new", "get", "tell"):
        words.step()
        return (word, read_close_term(words))
    if word == "put":
        words.step()
        cell = read_close_term(words)
        return ("put", cell, read_close_term(words))
    term = read_close_term(words)
    if is_maker(word):
        return ("make", word, read_close_term(words)) if begins_close_term(words.look()) else term
    while begins_close_term(words.look()):
        term = ("call", term, read_close_term(words))
    return term


def read_term_from(words, wants):
    """A term of a level from 0 on, or from one of a sign or a call on."""
    if wants == 0 and words.look() in ("fn", "let", "rec", "if"):
        return read_loose_term(words)
    term = read_tight_term(words)
    level = CALL_LEVEL
    while True:
        sign = words.look()
        reached = SIGN_LEVELS.get(sign, 0)
        # On the left of < and = no other one of them stands; on that of the others one of their own level may.
        if reached == 0 or reached < wants or level < max(reached, 2):
            return term
        words.step()
        term = ("op", sign, term, read_term_from(words, reached + 1))
        level = reached


def read_any_term(words):
    """Any term."""
    return read_term_from(words, 0)


def read_making(words, is_own):
    """A maker of a declaration, with its kind, if it has one."""
    maker = words.look()
    if not (is_great(maker) if is_own else is_maker(maker)):
        words.fail()
    words.step()
    if not begins_close_kind(words.look()):
        return (maker, None)
    words.parts = 1
    return (maker, read_close_kind(words))


def read_declaration(words, is_own):
    """A declaration; if it is a module's own, its names have no point, its variables are among its parameters."""
    words.take("kind")
    name = words.look()
    if not (is_great(name) if is_own else is_maker(name)):
        words.fail()
    words.step()
    many = 0
    while words.look()[:1] == "?":
        words.take(f"?{many}")
        many += 1
    words.take("=")
    words.many = many if is_own else None
    makers = [read_making(words, is_own)]
    while words.look() == "|":
        words.step()
        makers.append(read_making(words, is_own))
    words.many = None
    return (name, many, tuple(makers))


def read_kind(text):
    """The KIND that a text tells."""
    words = Reading(text)
    kind = read_any_kind(words)
    words.finish()
    if not is_kind(kind):
        raise NotKind()
    return kind


def read_pattern(text):
    """The PATTERN that a text tells."""
    words = Reading(text)
    pattern = read_any_pattern(words)
    words.finish()
    return pattern


def read_term(text):
    """The TERM that a text tells."""
    words = Reading(text)
    term = read_any_term(words)
    words.finish()
    return term


def read_program(text):
    """The PROGRAM that a text tells."""
    words = Reading(text)
    declarations = []
    while words.look() == "kind":
        declarations.append(read_declaration(words, False))
    words.take("give")
    program = (tuple(declarations), read_any_term(words))
    words.finish()
    if not is_program(program):
        raise NotProgram()
    return program
