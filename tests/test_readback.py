"""[59], [60]: words, environments and states read back."""

import random
import unittest

from kindsworn.compiler import code_of
from kindsworn.machine import Machine
from kindsworn.readback import activations, env_of, state_of, value_of, word_at
from kindsworn.runs import reached_cells, states_of, trimmed
from kindsworn.taking import is_taken
from kindsworn.values import is_env, is_value
from tests.anything import frozen
from tests.plainmachine import object_in
from tests.programs import BUILD, ENDLESS, HEAPING, TAILS, TEXTS, program, rounds
from tests.typed import random_program


class Snapshot:
    """A machine, each thing told once."""

    def __init__(self, machine):
        self.now, self.told, self.words = machine.shown(), machine.code(), machine.room()

    def shown(self):
        return self.now

    def code(self):
        return self.told

    def room(self):
        return self.words


def plain_value(machine, word):
    """What a word means, by the words of the document."""
    _, functions, labels, makers, _ = machine.code()
    if word % 2:
        sort, content = (word - 1) // 2 % 5, (word - 1) // 10
        return [("num", content), ("truth", content == 1), ("tuple", ()), ("make", makers[content] if sort == 3 else "", None)][sort]
    sort, extra, fields = object_in(machine.shown()["heap"], word // 2)
    if sort == "cell":
        return ("cell", extra)
    parts = tuple(plain_value(machine, field) for field in fields)
    if sort == "tuple":
        return ("tuple", parts)
    if sort == "record":
        return ("record", tuple(zip(labels[extra], parts)))
    if sort == "make":
        return ("make", makers[extra]) + parts
    _, how, names = functions[extra]
    return how + (tuple(zip(names, parts)),)


def plain_where(machine, base, own, where):
    if where[0] == "local":
        return plain_value(machine, machine.shown()["pile"][base + where[1]])
    if where[0] == "own":
        return plain_value(machine, own)
    fields = object_in(machine.shown()["heap"], own // 2)[2]
    if where[0] == "captured":
        return plain_value(machine, fields[where[1]])
    _, how, names = machine.code()[1][where[1]]
    return how + (tuple((name, plain_value(machine, field)) for name, field in zip(names, fields)),)


def plain_activations(machine):
    now = machine.shown()
    found = [(now["place"], now["base"], now["own"])]
    pile = now["pile"]
    while found[-1][1]:
        base = found[-1][1]
        found.append(((pile[base - 3] - 9) // 10, (pile[base - 2] - 9) // 10, pile[base - 1]))
    return found


WHERES = {"argument": (2,), "let": (3,), "if": (3,), "tuple": (3,), "record": (4,), "match": (2,), "put": (2,), "op": (3,)}
SLOTS = {"apply": 1, "putto": 1, "opto": 2}
LISTS = {"tuple": 1, "record": 2}


def plain_state(machine):
    """What a machine means, by the words of the document."""
    now, notes = machine.shown(), machine.code()[4]
    slot = lambda base, at: plain_value(machine, now["pile"][base + at])
    frames = []
    for place, base, own in plain_activations(machine):
        for frame in notes[place][1]:
            told = list(frame)
            for at in WHERES.get(frame[0], ()):
                told[at] = tuple((name, plain_where(machine, base, own, where)) for name, where in frame[at])
            if frame[0] in SLOTS:
                told[SLOTS[frame[0]]] = slot(base, frame[SLOTS[frame[0]]][1])
            if frame[0] in LISTS:
                told[LISTS[frame[0]]] = tuple(slot(base, one[1]) for one in frame[LISTS[frame[0]]])
            frames.append(tuple(told))
    doing = notes[now["place"]][0]
    if doing[0] == "do":
        control = ("do", doing[1], tuple((name, plain_where(machine, now["base"], now["own"], where)) for name, where in doing[2]))
    else:
        control = ("give", plain_value(machine, now["hand"]) if doing == ("give",) else slot(now["base"], doing[1]))
    cells = {}
    at = now["half"] * machine.room()
    while at < now["free"]:
        sort, extra, fields = object_in(now["heap"], at)
        if sort == "cell":
            cells[extra] = plain_value(machine, fields[0])
        at += 1 + len(fields)
    whole = (control, tuple(frames), tuple(sorted(cells.items())), now["told"])
    return trimmed(whole)


class ReadbackTest(unittest.TestCase):
    def look(self, machine):
        before = frozen(machine.shown())
        found = activations(machine)
        snapshot = Snapshot(machine)
        self.assertEqual(frozen(found), frozen(plain_activations(snapshot)))
        told = state_of(machine)
        self.assertEqual(frozen(told), frozen(plain_state(snapshot)))
        self.assertEqual(trimmed(told), told)
        self.assertEqual(tuple(index for index, _ in told[2]), reached_cells(told))
        again = frozen(found)
        found.clear()
        self.assertEqual([frozen(activations(machine)), frozen(state_of(machine)), frozen(machine.shown())], [again, frozen(told), before])
        return told

    def go(self, one, room, plan, most):
        """Looks at all states of a run; tells how many activations were open at most."""
        machine = Machine(code_of(one), room, plan)
        greatest = 0
        for _ in range(most):
            told = self.look(machine)
            greatest = max(greatest, len(activations(machine)))
            if machine.shown()["word"] != "going":
                break
            if told[0][0] == "do":
                self.assertTrue(is_env(told[0][2]))
            else:
                self.assertTrue(is_value(told[0][1]))
            machine.step()
        return greatest

    def test_programs(self):
        for text in [row[0] for row in TEXTS] + ENDLESS:
            self.go(program(text), 90, (True, False), 150)

    def test_loops(self):
        for text in TAILS:
            self.assertLessEqual(self.go(rounds(text, 5), 60, (False, True), 120), 3)
        for text in HEAPING:
            self.assertGreater(self.go(rounds(text, 5), 60, (False, True), 120), 5)

    def test_random_programs(self):
        chance = random.Random(60)
        for _ in range(120):
            one = random_program(chance, chance.choice([3, 4]), 0)
            if is_taken(one):
                self.go(one, chance.choice([10, 50]), chance.choice([(True,), (), (False, True)]), 60)

    def test_the_first_state(self):
        for text, _, _ in TEXTS:
            one = program(text)
            self.assertEqual(state_of(Machine(code_of(one), 0, ())), (("do", one[1], ()), (), (), ()))

    def test_the_end(self):
        for text, _, told in TEXTS:
            one = program(text)
            machine = Machine(code_of(one), 500, (True,))
            machine.run(3000)
            self.assertEqual(machine.shown()["word"], "ended")
            last = trimmed(states_of(one[1], 3000)[-1])
            self.assertEqual(state_of(machine), last)
            self.assertEqual(value_of(machine, machine.shown()["hand"]), last[0][1])
            self.assertEqual(activations(machine)[-1][1], 0)

    def test_room(self):
        """What is out of room means what it meant ahead of the row."""
        one = program(BUILD + "build 9")
        machine = Machine(code_of(one), 30, (False,))
        while machine.shown()["word"] == "going":
            before = state_of(machine)
            machine.step()
        self.assertEqual([machine.shown()["word"], state_of(machine)], ["room", before])

    def test_words(self):
        one = program("let a = (1, true) in let b = {p = a, q = ()} in let c = new (Some b) in let d = fn x -> (x, a, c) in (a, b, c, d, No)")
        machine = Machine(code_of(one), 60, ())
        machine.run(500)
        a = ("tuple", (("num", 1), ("truth", True)))
        b = ("record", (("p", a), ("q", ("tuple", ()))))
        fn = one[1][3][3][3][2]
        closure = ("closure", fn, (("a", a), ("c", ("cell", 0))))
        found = value_of(machine, machine.shown()["hand"])
        self.assertEqual(found, ("tuple", (a, b, ("cell", 0), closure, ("make", "No", None))))
        for word, value in [(1, ("num", 0)), (-29, ("num", -3)), (13, ("truth", True)), (3, ("truth", False)), (5, ("tuple", ())), (7, ("make", "Nil", None)), (27, ("make", "No", None))]:
            self.assertEqual(frozen(value_of(machine, word)), frozen(value))

    def test_cells_in_rings(self):
        one = program("let c = new (fn x -> x) in let d = new c in let u = put c (fn x -> (get (get d)) x) in d")
        machine = Machine(code_of(one), 60, (True,))
        machine.run(500)
        told = self.look(machine)
        self.assertEqual([told[0], [index for index, _ in told[2]], told[2][1]], [("give", ("cell", 1)), [0, 1], (1, ("cell", 0))])
        self.assertEqual(told[2][0][1][2], (("d", ("cell", 1)),))

    def test_wheres_in_activations(self):
        one = program("let a = 1 in let b = true in rec f = fn n -> if n = 0 then (a, b) else let r = g (n - 1) in r and g = fn m -> (fn q -> f m) b in f 3")
        machine = Machine(code_of(one), 90, (True,))
        groups = one[1][3][3][1]
        env = (("a", ("num", 1)), ("b", ("truth", True)))
        loops = [("loop", groups, at, env) for at in range(2)]
        seen = set()
        while machine.shown()["word"] == "going":
            before = frozen(machine.shown())
            for place, base, own in activations(machine):
                if base == 0:
                    continue
                shown = machine.shown()
                function = object_in(shown["heap"], own // 2)[1]
                sort = machine.code()[1][function][1]
                self.assertEqual(word_at(machine, base, own, ("own",)), own)
                self.assertEqual(word_at(machine, base, own, ("local", 0)), shown["pile"][base])
                fields = object_in(shown["heap"], own // 2)[2]
                for at, field in enumerate(fields):
                    self.assertEqual(word_at(machine, base, own, ("captured", at)), field)
                if sort[0] == "loop":
                    at = sort[2]
                    seen.add(at)
                    wheres = (("a", ("captured", 0)), ("b", ("captured", 1)), ("f", ("own",) if at == 0 else ("sibling", function - 1)), ("g", ("own",) if at == 1 else ("sibling", function + 1)))
                    self.assertEqual(frozen(env_of(machine, base, own, wheres)), frozen(env + (("f", loops[0]), ("g", loops[1]))))
                    self.assertEqual(env_of(machine, base, own, ()), ())
                    self.assertEqual(env_of(machine, base, own, (("n", ("local", 0)),)), (("n", value_of(machine, shown["pile"][base])),))
            self.assertEqual(frozen(machine.shown()), before)
            machine.step()
        self.assertEqual(seen, {0, 1})

    def test_long_lists(self):
        machine = Machine(code_of(program(BUILD + "build 45")), 500, (False, False, True))
        machine.run(5000)
        value = value_of(machine, machine.shown()["hand"])
        for number in range(45, 0, -1):
            self.assertEqual([value[1], value[2][1][0]], ["Cons", ("num", number)])
            value = value[2][1][1]

    def test_shared_values(self):
        """What is shared in the heap is read once, not again and again."""
        text = "let x0 = (1, 2) in " + "".join(f"let x{at} = (x{at - 1}, x{at - 1}) in " for at in range(1, 11)) + "x10"
        machine = Machine(code_of(program(text)), 100, ())
        machine.run(500)
        value = value_of(machine, machine.shown()["hand"])
        for _ in range(10):
            value = value[1][1]
        self.assertEqual(value, ("tuple", (("num", 1), ("num", 2))))


if __name__ == "__main__":
    unittest.main()
