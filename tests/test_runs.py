"""[45] to [47]: runs of the meaning, the cells that are reached, values of kinds; [8], [10] of the meaning."""

import random
import unittest

from kindsworn.checker import scheme_of_program
from kindsworn.errors import Stuck
from kindsworn.missing import is_plain, some_value
from kindsworn.reader import read_kind, read_program, read_term
from kindsworn.runs import deepest, is_of_kind, reached_cells, run_of, states_of, trimmed
from kindsworn.steps import first_state, next_state
from kindsworn.taking import is_taken
from kindsworn.values import is_value, show_value
from tests.anything import any_values, frozen, spoilt
from tests.programs import ENDLESS, HEAPING, STUCK, TAILS, TEXTS, program, rounds
from tests.typed import random_program

NUM, YES, UNIT = ("num", 4), ("truth", True), ("tuple", ())


class RunsTest(unittest.TestCase):
    def plain_states(self, term, most):
        """The states, one step behind the other, and the word of the last one."""
        states = [first_state(term)]
        while True:
            try:
                following = next_state(states[-1])
            except Stuck:
                return states, "stuck"
            if following is None:
                return states, "ended"
            if len(states) > most:
                return states, "going"
            states.append(following)

    def same(self, term, most):
        states, word = self.plain_states(term, most)
        before = frozen(term)
        self.assertEqual(frozen(states_of(term, most)), frozen(states))
        self.assertEqual(run_of(term, most), (word, states[-1], len(states) - 1))
        self.assertEqual(frozen(term), before)
        return word

    def test_each_most(self):
        for text in ("1", "1 + 2", "let x = 2 in x * x", "(fn x -> (x, x)) ()", "let c = new 1 in put c 2"):
            whole = len(states_of(read_term(text), 1000)) - 1
            for most in range(whole + 3):
                self.assertEqual(self.same(read_term(text), most), "ended" if most >= whole else "going", (text, most))

    def test_stuck(self):
        for text in STUCK:
            term = program(text)[1]
            whole = len(states_of(term, 1000)) - 1
            for most in range(whole + 3):
                self.assertEqual(self.same(term, most), "stuck" if most >= whole else "going", (text, most))
            last = states_of(term, 1000)[-1]
            self.assertEqual(last[0][0], "give")
            self.assertRaises(Stuck, next_state, last)

    def test_endless(self):
        for text in ENDLESS:
            for most in (0, 1, 2, 77):
                states = states_of(program(text)[1], most)
                self.assertEqual(len(states), most + 1)
                self.assertEqual(self.same(program(text)[1], most), "going")

    def test_the_first_one(self):
        term = read_term("1 1")
        self.assertEqual(states_of(term, 0), [first_state(term)])
        self.assertEqual(run_of(term, 0), ("going", first_state(term), 0))
        self.assertEqual(run_of(("num", 1), 0), ("going", (("do", ("num", 1), ()), (), (), ()), 0))
        self.assertEqual(run_of(("num", 1), 1), ("ended", (("give", ("num", 1)), (), (), ()), 1))

    def test_told_again(self):
        term = read_term("let c = new 1 in put c 2")
        first = states_of(term, 5)
        told = frozen(first)
        first.clear()
        self.assertEqual(frozen(states_of(term, 5)), told)

    def test_programs(self):
        for text, shown, told in TEXTS:
            self.assertTrue(is_taken(program(text)), text)
            word, state, _ = run_of(program(text)[1], 3000)
            self.assertEqual([word, state[1], state[3]], ["ended", (), told], text)
            self.assertEqual(show_value(state[0][1]), shown, text)


    def test_what_cells_have(self):
        for text, cells in [
                ("let c = new 1 in let d = new (c, 2) in let u = put c 5 in d", [("num", 5), ("tuple", (("cell", 0), ("num", 2)))]), ("get (new (new (new 3)))", [("num", 3), ("cell", 0), ("cell", 1)]), ("let c = new No in let u = put c (Some 4) in 1", [("make", "Some", ("num", 4))]),
                ("let c = new 0 in rec f = fn n -> if n = 0 then () else let u = put c (get c + n) in let d = new n in f (n - 1) in f 3", [("num", 6), ("num", 3), ("num", 2), ("num", 1)])]:
            word, state, _ = run_of(program(text)[1], 1000)
            self.assertEqual([word, state[2]], ["ended", tuple(enumerate(cells))], text)


class DeepestTest(unittest.TestCase):
    def test_deepest(self):
        states = states_of(read_term("1 + (2 + (3 + 4))"), 100)
        self.assertEqual([deepest(states), deepest(states[:1]), deepest(states[:2]), deepest(states[-1:])], [3, 0, 1, 0])
        self.assertEqual(deepest(states[::-1]), 3)

    def test_tail_calls_leave_nothing(self):
        for text in TAILS:
            depths = [deepest(states_of(rounds(text, many)[1], 4000)) for many in (3, 5, 40)]
            self.assertEqual(depths[0], depths[1], text)
            self.assertEqual(depths[0], depths[2], text)

    def test_other_calls_do(self):
        for text in HEAPING:
            depths = [deepest(states_of(rounds(text, many)[1], 4000)) for many in (5, 10, 40)]
            self.assertEqual(depths[2] - depths[1], 6 * (depths[1] - depths[0]), text)
            self.assertGreater(depths[1], depths[0])


def state(control, frames, cells, told=()):
    return (control, tuple(frames), tuple(enumerate(cells)), told)


def cell(index):
    return ("cell", index)


CLOSED = ("closure", read_term("fn x -> (x, c)"), (("c", cell(1)),))
LOOPED = ("loop", (("f", read_term("fn x -> f c")),), 0, (("c", cell(2)),))
ONE, TERM = ("num", 1), ("name", "c")
ENV = (("c", cell(1)),)


class ReachedTest(unittest.TestCase):
    def reaches(self, one, *wanted):
        before = frozen(one)
        self.assertEqual(frozen(reached_cells(one)), frozen(wanted))
        left = trimmed(one)
        self.assertEqual(left, (one[0], one[1], tuple(pair for pair in one[2] if pair[0] in wanted), one[3]))
        self.assertEqual(trimmed(left), left)
        self.assertEqual(reached_cells(left), wanted)
        self.assertEqual(frozen(one), before)

    def test_control(self):
        cells = [NUM, YES, UNIT]
        self.reaches(state(("give", NUM), [], cells))
        self.reaches(state(("give", NUM), [], []))
        self.reaches(state(("give", cell(1)), [], cells), 1)
        self.reaches(state(("give", ("tuple", (cell(2), ("record", (("a", cell(0)),))))), [], cells, (5,)), 0, 2)
        self.reaches(state(("give", ("make", "Some", cell(2))), [], cells), 2)
        self.reaches(state(("give", ("make", "No", None)), [], cells))
        self.reaches(state(("give", CLOSED), [], cells), 1)
        self.reaches(state(("give", LOOPED), [], cells), 2)
        self.reaches(state(("do", TERM, ENV), [], cells), 1)
        self.reaches(state(("do", ONE, ()), [], cells))

    def test_frames(self):
        rows = ((("any",), TERM),)
        cells = [NUM, YES, UNIT]
        for frame, wanted in [
                (("argument", TERM, ENV), (1,)), (("apply", CLOSED), (1,)), (("apply", LOOPED), (2,)), (("let", "x", TERM, ENV), (1,)), (("if", TERM, ONE, ENV), (1,)), (("tuple", (cell(2), NUM), (TERM,), ENV), (1, 2)),
                (("tuple", (), (TERM,), ENV), (1,)), (("tuple", (cell(0),), (), ()), (0,)), (("record", ("a", "b"), (cell(2),), (TERM,), ENV), (1, 2)), (("make", "Some"), ()), (("field", "c"), ()), (("match", rows, ENV), (1,)), (("new",), ()),
                (("get",), ()), (("put", TERM, ENV), (1,)), (("putto", cell(2)), (2,)), (("op", "+", TERM, ENV), (1,)), (("opto", "+", NUM), ()), (("tell",), ())]:
            self.reaches(state(("give", NUM), [frame], cells), *wanted)
            self.reaches(state(("give", NUM), [("tell",), frame, ("new",)], cells), *wanted)
            self.reaches(state(("give", cell(0)), [frame], cells), *sorted({0} | set(wanted)))

    def test_what_cells_have(self):
        self.reaches(state(("give", cell(3)), [], [NUM, cell(0), cell(1), cell(2), YES]), 0, 1, 2, 3)
        self.reaches(state(("give", cell(1)), [], [cell(1), cell(0), NUM]), 0, 1)
        self.reaches(state(("give", NUM), [("putto", cell(2))], [cell(1), cell(0), cell(2)]), 2)
        self.reaches(state(("give", cell(0)), [], [CLOSED, LOOPED, ("tuple", (cell(3), cell(0))), UNIT, NUM]), 0, 1, 2, 3)
        self.reaches(state(("give", cell(399)), [], [NUM] + [cell(index) for index in range(399)]), *range(400))

    def test_what_looks_like_a_cell(self):
        self.reaches(state(("do", read_term("{cell = 0}"), ()), [("record", ("cell", "x"), (), (ONE,), ()), ("match", ((("bind", "cell"), ONE),), ())], [NUM]))

    def test_runs(self):
        """What is trimmed comes to the same, but for cells that nothing reaches."""
        for text, _, _ in TEXTS:
            for one in states_of(program(text)[1], 300):
                left = trimmed(one)
                self.assertEqual(trimmed(left), left)
                self.assertTrue({index for index, _ in left[2]} <= {index for index, _ in one[2]})
                if left == one and next_state(one) is not None:
                    following = next_state(one)
                    self.assertEqual(next_state(left), following)


DECLARATIONS = read_program(
    "kind Opt ?0 = No | Some ?0 kind List ?0 = Nil | Cons (?0, List ?0) kind Two ?0 ?1 = Left ?0 | Right ?1 kind Nest ?0 = Flat ?0 | Deep (Nest (?0, ?0)) kind Fun ?0 = Fun (?0 -> ?0) kind Opt2 = No2 | Some2 num kind Rec ?0 = Rec {a: ?0, b: cell ?0} give 1")[0]
FN = ("closure", read_term("fn x -> x"), ())
LOOP = ("loop", (("f", read_term("fn x -> x")),), 0, ())


def make(maker, value=None):
    return ("make", maker, value)


def pair(one, other):
    return ("tuple", (one, other))


def record(**fields):
    return ("record", tuple(sorted(fields.items())))


class OfKindTest(unittest.TestCase):
    def told(self, kind, thing, wanted):
        kind = read_kind(kind)
        before = frozen((kind, thing))
        self.assertIs(is_of_kind(DECLARATIONS, kind, thing), wanted, (kind, thing))
        self.assertEqual(frozen((kind, thing)), before)

    def test_right_and_near_ones(self):
        near = [NUM, YES, UNIT, pair(NUM, NUM), record(), record(a=NUM), FN, LOOP, cell(0), make("No"), make("Some", NUM), make("Nil"), make("Left", NUM), make("Other"), make("Some2", NUM), ("tuple", (NUM, NUM, NUM))]
        for kind, rights in [
                ("num", [("num", 0), ("num", -2147483648), ("num", 2147483647), NUM]), ("truth", [YES, ("truth", False)]), ("()", [UNIT]), ("(num, num)", [pair(NUM, NUM)]), ("(num, truth)", [pair(NUM, YES)]), ("{}", [record()]), ("{a: num}", [record(a=NUM)]),
                ("{a: num, b: truth}", [record(a=NUM, b=YES)]), ("num -> num", [FN, LOOP]), ("{} -> truth", [FN, LOOP]), ("cell num", [cell(0), cell(7)]), ("cell (cell truth)", [cell(0), cell(10 ** 20)]), ("Opt num", [make("No"), make("Some", NUM)]),
                ("Opt truth", [make("No"), make("Some", YES)]), ("Opt (Opt num)", [make("No"), make("Some", make("No")), make("Some", make("Some", NUM))]), ("List num", [make("Nil"), make("Cons", pair(NUM, make("Cons", pair(NUM, make("Nil")))))]),
                ("Two num truth", [make("Left", NUM), make("Right", YES)]), ("Two truth num", [make("Left", YES), make("Right", NUM)]), ("Opt2", [make("No2"), make("Some2", NUM)]), ("Fun num", [make("Fun", FN), make("Fun", LOOP)]),
                ("Nest num", [make("Flat", NUM), make("Deep", make("Flat", pair(NUM, NUM))), make("Deep", make("Deep", make("Flat", pair(pair(NUM, NUM), pair(NUM, NUM)))))]), ("Rec truth", [make("Rec", record(a=YES, b=cell(3)))])]:
            for thing in rights:
                self.told(kind, thing, True)
            for thing in near:
                if thing not in rights and not (thing[0] == "cell" and kind.startswith("cell")):
                    self.told(kind, thing, False)

    def test_wrong_ones(self):
        for kind, wrongs in [
                ("num", [("num", True), ("num", 2147483648), 4, ("num",), ["num", 4]]), ("truth", [("truth", 1), ("truth", 0), True]), ("(num, truth)", [pair(YES, NUM), ("tuple", (NUM, YES, UNIT)), ("tuple", [NUM, YES])]),
                ("{a: num}", [record(a=YES), record(a=NUM, b=NUM), record(b=NUM), ("record", (("a", NUM), ("a", NUM)))]), ("{a: num, b: num}", [record(a=NUM), ("record", (("b", NUM), ("a", NUM)))]), ("Opt num", [make("Some", YES), make("Some"), make("No", NUM), make("Some", make("No"))]),
                ("List num", [make("Cons", pair(NUM, NUM)), make("Cons", NUM), make("Cons", pair(YES, make("Nil"))), make("Cons", pair(NUM, make("Cons", pair(YES, make("Nil")))))]), ("Two num truth", [make("Left", YES), make("Right", NUM)]),
                ("Nest num", [make("Deep", make("Flat", NUM)), make("Flat", pair(NUM, NUM)), make("Deep", make("Deep", make("Flat", pair(NUM, NUM))))]), ("num -> num", [("closure", NUM, ()), ("closure", FN[1], (("x", NUM),)), ("loop", LOOP[1], 1, ())]),
                ("cell num", [("cell", -1), ("cell", True), ("cell",)]), ("Fun num", [make("Fun", NUM), make("Fun")]), ("Rec num", [make("Rec", record(a=NUM)), make("Rec", record(a=NUM, b=NUM)), make("Rec", record(a=YES, b=cell(0)))])]:
            for thing in wrongs:
                self.told(kind, thing, False)

    def test_any_values(self):
        for kind in ("num", "truth", "()", "(num, truth)", "{a: num}", "{}", "num -> num", "cell num", "Opt num", "List num"):
            for thing in any_values():
                told = is_of_kind(DECLARATIONS, read_kind(kind), thing)
                self.assertIsInstance(told, bool)
                if told:
                    self.assertTrue(is_value(thing))

    def test_spoilt_ones(self):
        """What differs in one place is told by a second look at it."""
        for kind, thing in [("(num, Opt (Opt truth))", pair(NUM, make("Some", make("Some", YES)))), ("{a: List num, b: cell num}", record(a=make("Cons", pair(NUM, make("Nil"))), b=cell(1))), ("Opt (num -> num)", make("Some", FN))]:
            kind = read_kind(kind)
            for other in spoilt(thing):
                self.assertIs(is_of_kind(DECLARATIONS, kind, other), is_value(other) and plainly_of(kind, other), other)

    def test_deep_kinds(self):
        """A kind that doubles at each step is never written out."""
        value = make("Flat", NUM)
        for _ in range(60):
            value = make("Deep", value)
        self.told("Nest num", value, False)
        value = make("Nil")
        for _ in range(90):
            value = make("Cons", pair(NUM, value))
        self.told("List num", value, True)

    def test_some_values(self):
        for kind in ("num", "Opt (num, truth)", "List (List num)", "Two (Opt num) {a: num}", "Nest truth", "(num, {a: truth, b: ()})"):
            self.assertTrue(is_plain(DECLARATIONS, read_kind(kind)))
            self.told(kind, some_value(DECLARATIONS, read_kind(kind), ("any",)), True)

    def test_ends_of_taken_programs(self):
        chance = random.Random(46)
        ended = 0
        for _ in range(400):
            one = random_program(chance, chance.choice([3, 4]), 0)
            if not is_taken(one):
                continue
            word, last, _ = run_of(one[1], 2000)
            self.assertNotEqual(word, "stuck")
            many, kind = scheme_of_program(one)
            if word == "ended" and many == 0:
                self.assertIs(is_of_kind(one[0], kind, last[0][1]), True)
                ended += 1
        self.assertGreater(ended, 100)


def plainly_of(kind, value):
    """Whether a value is of a kind, by the words of the document."""
    if kind[0] == "to":
        return value[0] in ("closure", "loop")
    if kind[0] == "of":
        makers = {name: (many, rows) for name, many, rows in DECLARATIONS}[kind[1]][1]
        for maker, within in makers:
            if value[:2] == ("make", maker):
                return value[2] is None if within is None else value[2] is not None and plainly_of(filled(within, kind[2]), value[2])
        return False
    if kind[0] != value[0]:
        return False
    if kind[0] == "tuple":
        return len(kind[1]) == len(value[1]) and all(plainly_of(one, other) for one, other in zip(kind[1], value[1]))
    if kind[0] == "record":
        return [label for label, _ in kind[1]] == [label for label, _ in value[1]] and all(
            plainly_of(one, other) for (_, one), (_, other) in zip(kind[1], value[1]))
    return True


def filled(kind, kinds):
    """The kind with kinds in the place of its variables."""
    if kind[0] == "var":
        return kinds[kind[1]]
    if kind[0] in ("tuple", "record"):
        parts = kind[1] if kind[0] == "tuple" else [part for _, part in kind[1]]
        told = [filled(part, kinds) for part in parts]
        return ("tuple", tuple(told)) if kind[0] == "tuple" else ("record", tuple(zip([label for label, _ in kind[1]], told)), None)
    if kind[0] == "of":
        return ("of", kind[1], tuple(filled(part, kinds) for part in kind[2]))
    return kind[:1] + tuple(filled(part, kinds) for part in kind[1:])


if __name__ == "__main__":
    unittest.main()
