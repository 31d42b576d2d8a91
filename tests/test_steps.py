"""[43], [44]: states and steps."""

import random
import unittest

from kindsworn import errors
from kindsworn.forms import wrapped
from kindsworn.patterns import bindings
from kindsworn.reader import read_program, read_term
from kindsworn.steps import first_state, next_state
from kindsworn.taking import is_taken
from kindsworn.trees import free_names, names_of
from kindsworn.values import cells_in, is_env, is_value
from tests.anything import frozen
from tests.test_checker import HEAD
from tests.typed import random_program

UNIT, YES, NO = ("tuple", ()), ("truth", True), ("truth", False)
ENV = (("a", ("num", 1)), ("b", YES), ("c", ("cell", 0)), ("d", ("num", 4)))
A, B, C, D = ENV
CELLS = ((0, ("num", 7)),)
TOLD = (3, -1)
WAITING = (("tell",), ("new",))


def num(number):
    return ("num", number)


def part_of_env(*names):
    return tuple(pair for pair in ENV if pair[0] in names)


def term(text):
    return read_term(text)


class RowsTest(unittest.TestCase):
    def step(self, state):
        before = frozen(state)
        told = next_state(state)
        self.assertEqual(frozen(state), before)
        self.assertEqual(frozen(next_state(state)), frozen(told))
        return told

    def does(self, text, control, *frames, names=None):
        """That doing a term comes to this control, and to these frames ahead of those that were there."""
        one = term(text) if isinstance(text, str) else text
        env = part_of_env(*(free_names(one)))
        state = (("do", one, env), WAITING, CELLS, TOLD)
        self.assertEqual(self.step(state), (control, frames + WAITING, CELLS, TOLD), text)

    def gives(self, frame, value, control, *frames, cells=CELLS, told=TOLD):
        """That a value given to a frame comes to this control, and to these frames instead of it."""
        state = (("give", value), (frame,) + WAITING, CELLS, TOLD)
        self.assertEqual(self.step(state), (control, frames + WAITING, cells, told), (frame, value))

    def stuck(self, frame, value):
        state = (("give", value), (frame,) + WAITING, CELLS, TOLD)
        before = frozen(state)
        with self.assertRaises(errors.Stuck) as caught:
            next_state(state)
        self.assertIs(type(caught.exception), errors.Stuck)
        self.assertEqual(frozen(state), before)

    def test_first_state(self):
        one = term("fn x -> x")
        self.assertEqual(first_state(one), (("do", one, ()), (), (), ()))

    def test_the_end(self):
        for value in (num(1), UNIT, ("cell", 0)):
            self.assertIsNone(self.step((("give", value), (), CELLS, TOLD)))

    def test_do_what_is_plain(self):
        for text, value in [("5", num(5)), ("~5", num(-5)), ("true", YES), ("false", NO), ("()", UNIT), ("No", ("make", "No", None)), ("M.No", ("make", "M.No", None)), ("a", A[1]), ("c", C[1]),
                            ("fn x -> x", ("closure", term("fn x -> x"), ())), ("fn x -> (x, a, d)", ("closure", term("fn x -> (x, a, d)"), (A, D))), ("fn a -> a", ("closure", term("fn a -> a"), ()))]:
            self.does(text, ("give", value))

    def test_do_with_a_frame(self):
        self.does("a b", ("do", term("a"), (A,)), ("argument", term("b"), (B,)))
        self.does("(fn x -> a) (a, d)", ("do", term("fn x -> a"), (A,)), ("argument", term("(a, d)"), (A, D)))
        self.does("let x = a in (x, b)", ("do", term("a"), (A,)), ("let", "x", term("(x, b)"), (B,)))
        self.does("let a = a in (a, b)", ("do", term("a"), (A,)), ("let", "a", term("(a, b)"), (B,)))
        self.does("let M.x = a in (M.x, b)", ("do", term("a"), (A,)), ("let", "M.x", term("(M.x, b)"), (B,)))
        self.does("if b then a else (d, 1)", ("do", term("b"), (B,)), ("if", term("a"), term("(d, 1)"), (A, D)))
        self.does("(a, b, d)", ("do", term("a"), (A,)), ("tuple", (), (term("b"), term("d")), (B, D)))
        self.does("(a, a)", ("do", term("a"), (A,)), ("tuple", (), (term("a"),), (A,)))
        self.does("{p = a, q = b}", ("do", term("a"), (A,)), ("record", ("p", "q"), (), (term("b"),), (B,)))
        self.does("{p = a}", ("do", term("a"), (A,)), ("record", ("p",), (), (), ()))
        self.does("a.p", ("do", term("a"), (A,)), ("field", "p"))
        self.does("Some a", ("do", term("a"), (A,)), ("make", "Some"))
        rows = ((term_pattern("Some (a, x)"), term("(a, x, b)")), (term_pattern("d"), term("c d")))
        self.does(("match", term("a"), rows), ("do", term("a"), (A,)), ("match", rows, (B, C)))
        self.does("new a", ("do", term("a"), (A,)), ("new",))
        self.does("get c", ("do", term("c"), (C,)), ("get",))
        self.does("put c (a, d)", ("do", term("c"), (C,)), ("put", term("(a, d)"), (A, D)))
        self.does("tell a", ("do", term("a"), (A,)), ("tell",))
        for sign in "+-*<=":
            self.does(f"a {sign} d", ("do", term("a"), (A,)), ("op", sign, term("d"), (D,)))

    def test_do_a_rec(self):
        group = (("f", term("fn x -> g (a, x)")), ("g", term("fn f -> (f, d)")))
        loops = (("f", ("loop", group, 0, (A, D))), ("g", ("loop", group, 1, (A, D))))
        self.does(("rec", group, term("(f, b)")), ("do", term("(f, b)"), (B, loops[0])))
        self.does(("rec", group, term("(f, g)")), ("do", term("(f, g)"), loops))
        self.does(("rec", group, term("1")), ("do", num(1), ()))
        own = (("a", term("fn x -> a x")),)
        self.does(("rec", own, term("(a, b)")), ("do", term("(a, b)"), (("a", ("loop", own, 0, ())), B)))

    def test_give_argument_and_apply(self):
        closure = ("closure", term("fn x -> (x, a)"), (A,))
        self.gives(("argument", term("d"), (D,)), closure, ("do", term("d"), (D,)), ("apply", closure))
        self.gives(("argument", num(1), ()), num(5), ("do", num(1), ()), ("apply", num(5)))
        self.gives(("apply", closure), num(9), ("do", term("(x, a)"), (A, ("x", num(9)))))
        self.gives(("apply", ("closure", term("fn x -> a"), (A,))), num(9), ("do", term("a"), (A,)))
        self.gives(("apply", ("closure", term("fn x -> 1"), ())), num(9), ("do", num(1), ()))
        group = (("f", term("fn x -> g (a, x)")), ("g", term("fn f -> (f, d)")), ("h", term("fn x -> (f, h)")))
        loops = [("loop", group, index, (A, D)) for index in range(3)]
        self.gives(("apply", loops[0]), num(9), ("do", term("g (a, x)"), (A, ("g", loops[1]), ("x", num(9)))))
        self.gives(("apply", loops[1]), num(9), ("do", term("(f, d)"), (D, ("f", num(9)))))
        self.gives(("apply", loops[2]), num(9), ("do", term("(f, h)"), (("f", loops[0]), ("h", loops[2]))))
        for value in (num(1), UNIT, ("cell", 0), YES, ("make", "No", None), ("record", ())):
            self.stuck(("apply", value), num(1))

    def test_give_let_and_if(self):
        self.gives(("let", "x", term("(x, b)"), (B,)), num(9), ("do", term("(x, b)"), (B, ("x", num(9)))))
        self.gives(("let", "x", term("b"), (B,)), num(9), ("do", term("b"), (B,)))
        self.gives(("let", "M.x", term("M.x"), ()), num(9), ("do", term("M.x"), (("M.x", num(9)),)))
        self.gives(("if", term("a"), term("(d, b)"), (A, B, D)), YES, ("do", term("a"), (A,)))
        self.gives(("if", term("a"), term("(d, b)"), (A, B, D)), NO, ("do", term("(d, b)"), (B, D)))
        for value in (num(1), num(0), UNIT, ("make", "No", None)):
            self.stuck(("if", term("1"), term("2"), ()), value)

    def test_give_tuples_and_records(self):
        self.gives(("tuple", (), (term("b"), term("d")), (B, D)), num(9), ("do", term("b"), (B,)), ("tuple", (num(9),), (term("d"),), (D,)))
        self.gives(("tuple", (num(9),), (term("d"),), (D,)), YES, ("do", term("d"), (D,)), ("tuple", (num(9), YES), (), ()))
        self.gives(("tuple", (num(9), YES), (), ()), num(4), ("give", ("tuple", (num(9), YES, num(4)))))
        self.gives(("record", ("p", "q"), (), (term("b"),), (B,)), num(9), ("do", term("b"), (B,)), ("record", ("p", "q"), (num(9),), (), ()))
        self.gives(("record", ("p", "q"), (num(9),), (), ()), YES, ("give", ("record", (("p", num(9)), ("q", YES)))))
        self.gives(("record", ("p",), (), (), ()), YES, ("give", ("record", (("p", YES),))))
        self.gives(("make", "Some"), num(9), ("give", ("make", "Some", num(9))))
        record = ("record", (("p", num(9)), ("q", YES)))
        self.gives(("field", "q"), record, ("give", YES))
        self.stuck(("field", "r"), record)
        for value in (num(1), UNIT, ("tuple", (num(1), num(2))), ("record", ()), ("make", "p", None)):
            self.stuck(("field", "p"), value)

    def test_give_match(self):
        rows = ((term_pattern("(1, x)"), term("(x, a)")), (term_pattern("(x, 2)"), term("x")), (term_pattern("Some a"), term("(a, b)")))
        frame = ("match", rows, (A, B))
        self.gives(frame, ("tuple", (num(1), num(2))), ("do", term("(x, a)"), (A, ("x", num(2)))))
        self.gives(frame, ("tuple", (num(5), num(2))), ("do", term("x"), (("x", num(5)),)))
        self.gives(frame, ("make", "Some", num(5)), ("do", term("(a, b)"), (("a", num(5)), B)))
        for value in (num(1), ("tuple", (num(5), num(5))), ("make", "Some", None), ("make", "Other", num(1)), ("tuple", (num(1),) * 3)):
            self.stuck(frame, value)

    def test_give_cells(self):
        self.gives(("new",), num(9), ("give", ("cell", 1)), cells=CELLS + ((1, num(9)),))
        self.assertEqual(self.step((("give", YES), (("new",),), (), ())), (("give", ("cell", 0)), (), ((0, YES),), ()))
        self.gives(("get",), ("cell", 0), ("give", num(7)))
        self.gives(("put", term("(a, d)"), (A, D)), ("cell", 0), ("do", term("(a, d)"), (A, D)), ("putto", ("cell", 0)))
        self.gives(("put", num(1), ()), num(5), ("do", num(1), ()), ("putto", num(5)))
        self.gives(("putto", ("cell", 0)), YES, ("give", UNIT), cells=((0, YES),))
        cells = ((0, num(1)), (1, num(2)), (2, num(3)))
        self.assertEqual(self.step((("give", UNIT), (("putto", ("cell", 1)),), cells, ())), (("give", UNIT), (), ((0, num(1)), (1, UNIT), (2, num(3))), ()))
        for value in (num(0), UNIT, YES, ("closure", term("fn x -> x"), ())):
            self.stuck(("get",), value)
            self.stuck(("putto", value), num(1))

    def test_give_numbers(self):
        most, least = 2147483647, -2147483648
        self.gives(("op", "-", term("(a, d)"), (A, D)), num(9), ("do", term("(a, d)"), (A, D)), ("opto", "-", num(9)))
        self.gives(("op", "+", num(1), ()), YES, ("do", num(1), ()), ("opto", "+", YES))
        for one, sign, other, told in [(3, "+", 4, num(7)), (3, "-", 4, num(-1)), (3, "*", 4, num(12)), (3, "<", 4, YES), (4, "<", 4, NO), (5, "<", 4, NO), (3, "=", 4, NO), (4, "=", 4, YES), (most, "+", 1, num(least)),
                                       (least, "-", 1, num(most)), (most, "*", most, num(1)), (least, "*", -1, num(least)), (65536, "*", 65536, num(0)), (least, "-", least, num(0)), (most, "+", most, num(-2)), (-3, "*", 5, num(-15))]:
            self.gives(("opto", sign, num(one)), num(other), ("give", told))
        for sign in "+-*<=":
            for value in (YES, UNIT, ("cell", 1), ("make", "No", None)):
                self.stuck(("opto", sign, value), num(1))
                self.stuck(("opto", sign, num(1)), value)
                self.stuck(("opto", sign, value), value)
        self.gives(("tell",), num(9), ("give", UNIT), told=TOLD + (9,))
        for value in (YES, UNIT, ("cell", 1)):
            self.stuck(("tell",), value)


def term_pattern(text):
    return read_term(f"match 1 with | {text} -> 1 end")[2][0][0]


class Out(Exception):
    """Too many steps, or stuck."""


class World:
    """The meaning of terms, each told at once, with cells and what is told."""

    def __init__(self, room):
        self.cells = []
        self.told = []
        self.room = room

    def value(self, one, env):
        self.room -= 1
        if self.room < 0:
            raise Out()
        head = one[0]
        if head in ("num", "truth"):
            return one
        if head == "name":
            return env[one[1]]
        if head == "fn":
            return ("closure", one, tuple((name, env[name]) for name in free_names(one)))
        if head == "call":
            function = self.value(one[1], env)
            return self.applied(function, self.value(one[2], env))
        if head == "let":
            return self.value(one[3], {**env, one[1]: self.value(one[2], env)})
        if head == "rec":
            within = tuple((name, env[name]) for name in free_names(("rec", one[1], UNIT)))
            return self.value(one[2], {**env, **{name: ("loop", one[1], at, within) for at, (name, _) in enumerate(one[1])}})
        if head == "if":
            return self.value(one[2] if self.value(one[1], env)[1] else one[3], env)
        if head == "tuple":
            return ("tuple", tuple([self.value(part, env) for part in one[1]]))
        if head == "record":
            return ("record", tuple([(label, self.value(part, env)) for label, part in one[1]]))
        if head == "field":
            return dict(self.value(one[1], env)[1])[one[2]]
        if head == "make":
            return ("make", one[1], None if one[2] is None else self.value(one[2], env))
        if head == "match":
            value = self.value(one[1], env)
            for pattern, body in one[2]:
                found = bindings(pattern, value)
                if found is not None:
                    return self.value(body, {**env, **found})
            raise AssertionError("not whole")
        if head == "new":
            self.cells.append(self.value(one[1], env))
            return ("cell", len(self.cells) - 1)
        if head == "get":
            return self.cells[self.value(one[1], env)[1]]
        if head == "put":
            cell = self.value(one[1], env)
            self.cells[cell[1]] = self.value(one[2], env)
            return UNIT
        if head == "tell":
            self.told.append(self.value(one[1], env)[1])
            return UNIT
        first = self.value(one[2], env)[1]
        second = self.value(one[3], env)[1]
        signs = {"+": first + second, "-": first - second, "*": first * second}
        return ("truth", first < second if one[1] == "<" else first == second) if one[1] in "<=" else num(wrapped(signs[one[1]]))

    def applied(self, function, value):
        if function[0] == "closure":
            _, (_, name, body), env = function
            return self.value(body, {**dict(env), name: value})
        _, group, at, env = function
        loops = {name: ("loop", group, index, env) for index, (name, _) in enumerate(group)}
        return self.value(group[at][1][2], {**dict(env), **loops, group[at][1][1]: value})


def frame_names(frame):
    """The names that the env of a frame has, None if it has no env."""
    head = frame[0]
    if head in ("argument", "put"):
        return set(free_names(frame[1]))
    if head == "let":
        return set(free_names(frame[2])) - {frame[1]}
    if head == "if":
        return set(free_names(frame[1])) | set(free_names(frame[2]))
    if head in ("tuple", "record"):
        return {name for one in frame[-2] for name in free_names(one)}
    if head == "match":
        return {name for pattern, body in frame[1] for name in set(free_names(body)) - set(names_of(pattern))}
    if head == "op":
        return set(free_names(frame[2]))
    return None


class RunsTest(unittest.TestCase):
    def checked(self, state):
        """That a state is formed as it should be."""
        control, frames, cells, told = state
        if control[0] == "do":
            self.assertTrue(is_env(control[2]))
            self.assertEqual(tuple(name for name, _ in control[2]), free_names(control[1]))
        else:
            self.assertTrue(is_value(control[1]))
            self.assertLess(max((-1,) + cells_in(control[1])), max(1, len(cells)))
        for frame in frames:
            names = frame_names(frame)
            if names is not None:
                self.assertTrue(is_env(frame[-1]))
                self.assertEqual([name for name, _ in frame[-1]], sorted(names))
        self.assertEqual([index for index, _ in cells], list(range(len(cells))))

    def run_of(self, one, most, check=False):
        state = first_state(one)
        for _ in range(most):
            if check:
                self.checked(state)
            following = next_state(state)
            if following is None:
                return state
            state = following
        return None

    def test_random_programs(self):
        """What steps lead to is what a term means, told at once; and no taken program is ever stuck."""
        chance = random.Random(47)
        ended = 0
        for _ in range(600):
            program = random_program(chance, chance.choice([3, 4]), 0)
            if not is_taken(program):
                continue
            world = World(400)
            try:
                value = world.value(program[1], {})
            except Out:
                self.assertIsNone(self.run_of(program[1], 300))
                continue
            end = self.run_of(program[1], 5000, chance.randrange(4) == 0)
            self.assertEqual(end, (("give", value), (), tuple(enumerate(world.cells)), tuple(world.told)))
            ended += 1
        self.assertGreater(ended, 200)

    def test_programs(self):
        for text, value, told in [
                ("rec f = fn n -> if n = 0 then 1 else n * f (n - 1) in f 10", num(3628800), ()), ("rec even = fn n -> if n = 0 then true else odd (n - 1) and odd = fn n -> if n = 0 then false else even (n - 1) in (even 7, odd 7)", ("tuple", (NO, YES)), ()),
                ("let c = new 0 in rec loop = fn n -> if n = 0 then get c else let u = put c (get c + n) in let u = tell (get c) in loop (n - 1) in loop 4", num(10), (4, 7, 9, 10)),
                ("rec sum = fn l -> match l with | Nil -> 0 | Cons (x, t) -> x + sum t end in sum (Cons (1, Cons (2, Cons (3, Nil))))", num(6), ()),
                ("let x = 1 in let f = fn y -> x + y in let x = 10 in f x", num(11), ()), ("(tell 1, (tell 2, tell 3), {a = tell 4, b = tell 5}).a", None, ()), ("let u = ((tell 1, tell 2), {a = tell 3, b = tell 4}) in 5", num(5), (1, 2, 3, 4)),
                ("((fn x -> fn y -> x - y) (let u = tell 1 in 9)) (let u = tell 2 in 4)", num(5), (1, 2)), ("1 - (2 - 3) * 4", num(5), ()), ("if 1 = 1 then 1 else tell true", num(1), ())]:
            one = read_program(HEAD + text)[1]
            if value is None:
                with self.assertRaises(errors.Stuck):
                    self.run_of(one, 1000)
                continue
            end = self.run_of(one, 2000, True)
            self.assertEqual([end[0], end[1], end[3]], [("give", value), (), told], text)

    def test_what_is_not_taken_may_be_stuck(self):
        for text in ("1 1", "if 1 then 2 else 3", "match 1 with | 2 -> 3 end", "1 + true", "{a = 1}.b", "get 1", "put 1 2", "tell true"):
            with self.assertRaises(errors.Stuck):
                self.run_of(term(text), 100)

    def test_endless_ones(self):
        one = term("rec f = fn n -> f n in f 1")
        self.assertIsNone(self.run_of(one, 3000))


if __name__ == "__main__":
    unittest.main()
