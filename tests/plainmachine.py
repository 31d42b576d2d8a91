"""A second machine, told from the words of the document, and random codes for it."""

from kindsworn.forms import wrapped

UNIT = 5
KINDS = {"tuple": 0, "record": 1, "make": 2, "cell": 3, "closure": 4}


class Stuck(Exception):
    """A row wants what is not so."""


def want(right):
    if not right:
        raise Stuck()


def place_word(place):
    return 10 * place + 2 * 4 + 1


def header(sort, extra, many):
    return 2 * (5 * (256 * extra + many) + KINDS[sort]) + 1


def object_in(heap, address):
    told = (heap[address] - 1) // 2
    sort, rest = told % 5, told // 5
    many = rest % 256
    return [name for name in KINDS if KINDS[name] == sort][0], rest // 256, list(heap[address + 1:address + 1 + many])


def collection(heap, room, half, roots):
    """What a collection tells: the list of addresses first, in the order in which they are met, then the words."""
    met = []
    todo = [word for word in roots if word % 2 == 0]
    for word in todo:
        if word // 2 not in met:
            met.append(word // 2)
    at = 0
    while at < len(met):
        for word in object_in(heap, met[at])[2]:
            if word % 2 == 0 and word // 2 not in met:
                met.append(word // 2)
        at += 1
    places = {}
    free = (1 - half) * room
    for address in met:
        places[address] = free
        free += 1 + len(object_in(heap, address)[2])
    moved = lambda word: word if word % 2 else 2 * places[word // 2]
    made = [0] * (2 * room)
    for address in met:
        fields = object_in(heap, address)[2]
        made[places[address]] = heap[address]
        for index, word in enumerate(fields):
            made[places[address] + 1 + index] = moved(word)
    return tuple(made), free, tuple(moved(word) for word in roots)


class PlainMachine:
    def __init__(self, code, room, plan):
        self.rows, self.functions, self.labels, self.makers, _ = code
        self.room, self.plan = room, plan
        self.now = {"place": 0, "hand": UNIT, "pile": (), "base": 0, "own": UNIT, "heap": (0,) * (2 * room), "half": 0, "free": 0, "made": 0,
                    "cells": 0, "told": (), "word": "going"}

    def collect(self):
        now = self.now
        roots = (now["hand"], now["own"]) + now["pile"]
        heap, free, told = collection(now["heap"], self.room, now["half"], roots)
        now.update(heap=heap, free=free, half=1 - now["half"], hand=told[0], own=told[1], pile=told[2:])

    def enough(self, many):
        return self.now["free"] + 1 + many <= (self.now["half"] + 1) * self.room

    def make(self, sort, extra, many, fields):
        """Makes an object; fields tells them behind a collection, and takes them off."""
        now = self.now
        if self.plan and self.plan[now["made"] % len(self.plan)]:
            self.collect()
        elif not self.enough(many):
            self.collect()
        if not self.enough(many):
            now["word"] = "room"
            return False
        words = [header(sort, extra, many)] + list(fields())
        heap = list(now["heap"])
        heap[now["free"]:now["free"] + len(words)] = words
        now.update(heap=tuple(heap), hand=2 * now["free"], free=now["free"] + len(words), made=now["made"] + 1)
        return True

    def look(self, word, sort):
        want(word % 2 == 0)
        found, extra, fields = object_in(self.now["heap"], word // 2)
        want(found == sort)
        return extra, fields

    def immediate(self, word, sort):
        want(word % 2 == 1 and (word - 1) // 2 % 5 == sort)
        return (word - 1) // 10

    def last(self, many=1):
        want(len(self.now["pile"]) - self.now["base"] >= many)
        return self.now["pile"][-many:]

    def off(self, many):
        words = self.now["pile"][-many:] if many else ()
        self.now["pile"] = self.now["pile"][:len(self.now["pile"]) - many]
        return words

    def step(self):
        now = self.now
        if now["word"] != "going":
            return False
        before = dict(now)
        try:
            want(now["place"] < len(self.rows))
            to = self.row(*self.rows[now["place"]])
        except Stuck:
            assert before == now
            now["word"] = "stuck"
            return False
        if to is None:
            return False
        now["place"] = to
        return True

    def row(self, head, *rest):
        now, behind = self.now, self.now["place"] + 1
        hand, pile, base = now["hand"], now["pile"], now["base"]
        if head == "give":
            now["hand"] = rest[0]
        elif head == "local":
            want(rest[0] < len(pile) - base)
            now["hand"] = pile[base + rest[0]]
        elif head == "captured":
            fields = self.look(now["own"], "closure")[1]
            want(rest[0] < len(fields))
            now["hand"] = fields[rest[0]]
        elif head == "own":
            self.look(now["own"], "closure")
            now["hand"] = now["own"]
        elif head == "push":
            now["pile"] = pile + (hand,)
        elif head == "drop":
            self.last(rest[0])
            self.off(rest[0])
        elif head == "tell":
            now["told"] += (self.immediate(hand, 0),)
            now["hand"] = UNIT
        elif head in ("closure", "tuple", "record"):
            many = rest[-1]
            want(len(pile) - base >= many)
            if not self.make(head, rest[0] if head != "tuple" else 0, many, lambda: self.off(many)):
                return None
        elif head == "sibling":
            fields = self.look(now["own"], "closure")[1]
            want(len(fields) == len(self.functions[rest[0]][2]))
            if not self.make("closure", rest[0], len(fields), lambda: self.look(now["own"], "closure")[1]):
                return None
        elif head == "make":
            if not self.make("make", rest[0], 1, lambda: [now["hand"]]):
                return None
        elif head == "new":
            if not self.make("cell", now["cells"], 1, lambda: [now["hand"]]):
                return None
            now["cells"] += 1
        elif head == "get":
            now["hand"] = self.look(hand, "cell")[1][0]
        elif head == "put":
            cell = self.last()[0]
            self.look(cell, "cell")
            self.off(1)
            heap = list(now["heap"])
            heap[cell // 2 + 1] = hand
            now.update(heap=tuple(heap), hand=UNIT)
        elif head == "item":
            fields = self.look(hand, "tuple")[1]
            want(rest[0] < len(fields))
            now["hand"] = fields[rest[0]]
        elif head == "label":
            extra, fields = self.look(hand, "record")
            want(rest[0] in self.labels[extra])
            now["hand"] = dict(zip(self.labels[extra], fields))[rest[0]]
        elif head == "inside":
            now["hand"] = self.look(hand, "make")[1][0]
        elif head == "op":
            one, other = self.immediate(self.last()[0], 0), self.immediate(hand, 0)
            self.off(1)
            told = {"+": one + other, "-": one - other, "*": one * other, "<": one < other, "=": one == other}[rest[0]]
            now["hand"] = (13 if told else 3) if isinstance(told, bool) else 10 * wrapped(told) + 1
        elif head == "go":
            return rest[0]
        elif head == "unless":
            return rest[0] if self.immediate(hand, 1) == 0 else behind
        elif head == "notnum":
            return rest[1] if self.immediate(hand, 0) != rest[0] else behind
        elif head == "nottruth":
            return rest[1] if self.immediate(hand, 1) != (1 if rest[0] else 0) else behind
        elif head == "notmaker":
            maker = self.immediate(hand, 3) if hand % 2 else self.look(hand, "make")[0]
            return rest[1] if maker != rest[0] else behind
        elif head in ("call", "tail"):
            closure = self.last()[0]
            function, _ = self.look(closure, "closure")
            if head == "call":
                self.off(1)
                now["pile"] += (place_word(behind), place_word(base), now["own"])
                now["base"] = len(now["pile"])
            else:
                now["pile"] = pile[:base]
            now["pile"] += (hand,)
            now["own"] = closure
            return self.functions[function][0]
        elif head == "back":
            if base == 0:
                now["word"] = "ended"
                return now["place"]
            place, below, own = pile[base - 3:base]
            now.update(pile=pile[:base - 3], own=own, base=(below - 1) // 10)
            return (place - 1) // 10
        else:
            want(False)
        return behind

    def run(self, most):
        done = 0
        while done < most and self.step():
            done += 1
        return done


LABELS = (("a",), ("a", "b"), ("b", "c", "d"))
MAKERS = ("No", "M.Some", "Other")


def random_row(chance, many, functions):
    """A row that fits a code of so many rows with these functions."""
    to = lambda: chance.randrange(many)
    head = chance.choice(["give"] * 4 + ["local"] * 4 + ["push"] * 9 + ["captured", "own", "drop", "tell", "closure", "closure", "closure", "tuple", "tuple", "tuple", "record", "record", "sibling", "make", "make", "new", "new", "get", "put", "item", "item",
                          "label", "inside", "op", "op", "go", "unless", "notnum", "nottruth", "notmaker", "call", "call", "call", "tail", "back", "none"])
    f = chance.randrange(len(functions))
    if head == "give":
        return ("give", chance.choice([1, 11, 21, -9, 3, 13, 5, 7, 17, 27, 21474836471, -21474836479]))
    if head in ("local", "captured", "item"):
        return (head, chance.choice([0, 0, 1, 1, 2, 3]))
    if head == "drop":
        return ("drop", chance.choice([1, 1, 2]))
    if head == "closure":
        return ("closure", f, len(functions[f][2]))
    if head == "sibling":
        return ("sibling", f)
    if head == "tuple":
        return ("tuple", chance.choice([2, 2, 3]))
    if head == "record":
        k = chance.randrange(len(LABELS))
        return ("record", k, len(LABELS[k]))
    if head == "make":
        return ("make", chance.randrange(3))
    if head == "label":
        return ("label", chance.choice("abcd"))
    if head == "op":
        return ("op", chance.choice("+-*<="))
    if head in ("go", "unless"):
        return (head, to())
    if head == "notnum":
        return (head, chance.choice([0, 1, -1]), to())
    if head == "nottruth":
        return (head, chance.choice([True, False]), to())
    if head == "notmaker":
        return (head, chance.randrange(3), to())
    return (head,)


def random_code(chance):
    """A code, many rows of which are stuck."""
    many = chance.randrange(1, 40)
    functions = tuple((chance.randrange(many), None, tuple("xyz"[:chance.choice([0, 0, 1, 2])])) for _ in range(3))
    rows = tuple(random_row(chance, many, functions) for _ in range(many))
    return rows, functions, LABELS, MAKERS, (None,) * many


def lasting_code(chance):
    """A code the rows of which want what is so for long, by trying each one before it is taken."""
    many = 40
    functions = tuple((chance.randrange(1, many), None, tuple("xyz"[:chance.choice([0, 0, 1, 2])])) for _ in range(3))
    rows = [("none",)] * many
    fixed = set()
    machine = PlainMachine((rows, functions, LABELS, MAKERS, None), 10 ** 3, ())
    for _ in range(150):
        place = machine.now["place"]
        if machine.now["word"] != "going" or place >= many:
            break
        if place in fixed:
            if not machine.step():
                break
            continue
        saved = dict(machine.now)
        for _ in range(60):
            rows[place] = random_row(chance, many, functions)
            machine.now = dict(saved)
            if rows[place] != ("back",) and machine.step():
                break
        fixed.add(place)
    return tuple(rows), functions, LABELS, MAKERS, (None,) * many
