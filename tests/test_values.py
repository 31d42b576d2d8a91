"""[42]: values and environments."""

import random
import unittest

from kindsworn.forms import is_term
from kindsworn.reader import read_term
from kindsworn.trees import free_names
from kindsworn.values import cells_in, is_env, is_value, narrowed, show_value, widened
from tests.anything import STRANGE, any_values, frozen, nested, spoilt
from tests.oracle import No, fields, headed, holds, maker, name, natural, number, several, term, tuple_of
from tests.samples import LABELS

NUM, TRUTH = ("num", 1), ("truth", True)
CLOSURE = ("closure", read_term("fn x -> x + y"), (("y", NUM),))
GROUP = (("f", read_term("fn x -> g (x + y)")), ("g", read_term("fn z -> f (z + a)")))
LOOP = ("loop", GROUP, 1, (("a", NUM), ("y", TRUTH)))


def must(right):
    if not right:
        raise No()


def free(one):
    """The free names of a term."""
    return list(free_names(one))


def value(thing):
    """Says No if a thing is no value."""
    headed(thing, {"num": 1, "truth": 1, "tuple": 1, "record": 1, "make": 2, "cell": 1, "closure": 2, "loop": 3})
    head = thing[0]
    if head == "num":
        number(thing[1])
    elif head == "truth":
        must(type(thing[1]) is bool)
    elif head == "tuple":
        several(thing[1], value)
    elif head == "record":
        fields(thing[1], value)
    elif head == "make":
        maker(thing[1])
        if thing[2] is not None:
            value(thing[2])
    elif head == "cell":
        natural(thing[1])
    elif head == "closure":
        term(thing[1])
        must(thing[1][0] == "fn")
        env(thing[2])
        must([pair[0] for pair in thing[2]] == free(thing[1]))
    else:
        whole = ("rec", thing[1], NUM)
        term(whole)
        natural(thing[2])
        must(thing[2] < len(thing[1]))
        env(thing[3])
        must([pair[0] for pair in thing[3]] == free(whole))


def env(thing):
    """Says No if a thing is no env."""
    tuple_of(thing)
    for pair in thing:
        tuple_of(pair, 2)
        name(pair[0])
        value(pair[1])
    names = [pair[0] for pair in thing]
    must(names == sorted(set(names)))


RIGHT = [
    NUM, TRUTH, ("truth", False), ("num", -2147483648), ("num", 2147483647), ("tuple", ()), ("tuple", (NUM, TRUTH)), ("record", ()), ("record", (("a", NUM),)), ("record", (("a", NUM), ("b", ("record", ())))),
    ("make", "Nil", None), ("make", "M.Nil", None), ("make", "Some", NUM), ("make", "Some", ("make", "Nil", None)), ("cell", 0), ("cell", 10 ** 30), CLOSURE, LOOP, ("closure", read_term("fn x -> x"), ()),
    ("closure", read_term("fn x -> fn y -> M.z"), (("M.z", LOOP),)), ("loop", (("f", read_term("fn f -> f")),), 0, ()), ("tuple", (CLOSURE, LOOP, ("cell", 2)))]


class FormsTest(unittest.TestCase):
    def test_right_ones(self):
        for thing in RIGHT:
            self.assertIs(is_value(thing), True, thing)
            self.assertIs(is_env((("x", thing),)), True, thing)

    def test_wrong_ones(self):
        for thing in [("num", 2147483648), ("num", -2147483649), ("num", True), ("truth", 1), ("truth", 0), ("truth", None), ("num",), ("tuple", (NUM,)), ("tuple", [NUM, NUM]), ("tuple", NUM),
                      ("record", (("a", NUM), ("a", NUM))), ("record", (("b", NUM), ("a", NUM))), ("record", (("A", NUM),)), ("record", (("a",),)), ("record", None), ("make", "nil", None), ("make", "Nil"),
                      ("make", "Some", 1), ("make", "M.N.Some", None), ("cell", -1), ("cell", True), ("cell", "0"), ("cell", None), ("closure", read_term("fn x -> x"), (("x", NUM),)), ("closure", read_term("fn x -> y"), ()),
                      ("closure", read_term("fn x -> y"), (("y", 1),)), ("closure", read_term("fn x -> (y, z)"), (("z", NUM), ("y", NUM))), ("closure", read_term("fn x -> y"), (("y", NUM), ("y", NUM))),
                      ("closure", read_term("fn x -> y"), (("y", NUM), ("z", NUM))), ("closure", read_term("1"), ()), ("closure", read_term("fn x -> x"), []), ("closure", ("fn", "x"), ()), ("closure", read_term("fn x -> x"), None),
                      ("loop", GROUP, 2, LOOP[3]), ("loop", GROUP, -1, LOOP[3]), ("loop", GROUP, True, LOOP[3]), ("loop", GROUP, None, LOOP[3]), ("loop", GROUP, 0, LOOP[3][:1]), ("loop", GROUP, 0, ()),
                      ("loop", GROUP, 0, (("a", NUM), ("f", NUM), ("y", NUM))), ("loop", (), 0, ()), ("loop", GROUP[:1] * 2, 0, (("g", NUM), ("y", NUM))), ("loop", (("f", NUM),), 0, ()), ("loop", list(GROUP), 0, LOOP[3]),
                      ("var", 0), ("any",), ("bind", "x"), ("name", "x"), ("fn", "x", NUM), "num", None, 1, True, [], (), list(NUM), ("num", 1, 1)]:
            self.assertIs(is_value(thing), False, thing)
            self.assertIs(is_env((("x", thing),)), False, thing)

    def test_envs(self):
        for thing, right in [((), True), ((("x", NUM),), True), ((("M.x", NUM), ("a", NUM), ("x", NUM)), True), ((("x", NUM), ("x", NUM)), False), ((("x", NUM), ("a", NUM)), False), ((("X", NUM),), False), ((("x", 1),), False),
                             ([], False), ((["x", NUM],), False), ((("x",),), False), ((("x", NUM, NUM),), False), ({}, False), ({"x": NUM}, False), (None, False), ((("in", NUM),), False), (((1, NUM),), False), (("x", NUM), False)]:
            self.assertIs(is_env(thing), right, thing)

    def test_any_value(self):
        for one in any_values() + STRANGE + [(("x", other),) for other in STRANGE]:
            before = frozen(one)
            self.assertIs(is_value(one), holds(value)(one), before[:60])
            self.assertIs(is_env(one), holds(env)(one), before[:60])
            self.assertEqual(frozen(one), before)
        self.assertIs(is_value(nested(30)), False)

    def test_one_place_otherwise(self):
        right = 0
        for thing in RIGHT + [("tuple", (CLOSURE, ("make", "Some", LOOP)))]:
            for other in spoilt(thing):
                expected = holds(value)(other)
                self.assertIs(is_value(other), expected, other)
                right += expected
        for thing in ((), (("a", NUM), ("x", CLOSURE))):
            for other in spoilt(thing):
                self.assertIs(is_env(other), holds(env)(other), other)
        self.assertGreater(right, 200)

    def test_deep_ones(self):
        one = NUM
        for _ in range(99):
            one = ("closure", read_term("fn x -> y"), (("y", one),))
        self.assertIs(is_value(one), True)
        self.assertIs(is_env((("y", one),)), True)
        self.assertEqual(cells_in(one), ())
        one = ("cell", 4)
        for _ in range(99):
            one = ("make", "Some", one)
        self.assertIs(is_value(one), True)
        self.assertEqual(cells_in(one), (4,))
        self.assertEqual(show_value(one), "Some (" * 98 + "Some cell" + ")" * 98)


def random_env(chance):
    return tuple((name, chance.choice(RIGHT)) for name in sorted(chance.sample(["M.x", "a", "b", "x", "y", "z"], chance.randrange(5))))


class WorkTest(unittest.TestCase):
    def test_narrowed(self):
        some = (("M.x", NUM), ("a", TRUTH), ("b", CLOSURE))
        for names, told in [((), ()), (("a",), some[1:2]), (("b", "a", "q"), some[1:]), (("M.x", "a", "b"), some), (("x", "M"), ())]:
            self.assertEqual(narrowed(some, names), told)
        self.assertEqual(narrowed((), ("a",)), ())

    def test_widened(self):
        some = (("a", NUM), ("c", NUM))
        for more, told in [({}, some), ({"a": TRUTH}, (("a", TRUTH), ("c", NUM))), ({"d": TRUTH, "M.x": LOOP}, (("M.x", LOOP), ("a", NUM), ("c", NUM), ("d", TRUTH))), ({"b": NUM}, (("a", NUM), ("b", NUM), ("c", NUM)))]:
            before = frozen((some, more))
            self.assertEqual(widened(some, more), told)
            self.assertEqual(frozen((some, more)), before)
        self.assertEqual(widened((), {"b": NUM, "a": NUM}), (("a", NUM), ("b", NUM)))

    def test_random_envs(self):
        chance = random.Random(46)
        for _ in range(300):
            one, other = random_env(chance), random_env(chance)
            told = widened(one, dict(list(other)[::-1]))
            self.assertIs(is_env(told), True)
            self.assertEqual(dict(told), {**dict(one), **dict(other)})
            names = tuple(chance.sample(["M.x", "a", "b", "x", "y", "q"], chance.randrange(5)))
            part = narrowed(told, names)
            self.assertIs(is_env(part), True)
            self.assertEqual(dict(part), {name: thing for name, thing in told if name in names})

    def test_cells_in(self):
        for thing, told in [(NUM, ()), (("cell", 3), (3,)), (("tuple", (("cell", 10), ("cell", 9), ("cell", 10))), (9, 10)), (("record", (("a", ("cell", 1)),)), (1,)), (("make", "Some", ("cell", 2)), (2,)),
                            (("make", "No", None), ()), (("closure", read_term("fn x -> y"), (("y", ("cell", 5)),)), (5,)), (("loop", GROUP, 0, (("a", ("cell", 7)), ("y", ("tuple", (("cell", 8), ("cell", 0)))))), (0, 7, 8)), (CLOSURE, ())]:
            self.assertEqual(cells_in(thing), told)

    def test_show_value(self):
        for thing, told in [(NUM, "1"), (("num", -5), "-5"), (("num", 0), "0"), (TRUTH, "true"), (("truth", False), "false"), (("tuple", ()), "()"), (("tuple", (NUM, TRUTH)), "(1, true)"), (("record", ()), "{}"),
                            (("record", (("a", NUM), ("b", ("tuple", ())))), "{a = 1, b = ()}"), (("make", "Nil", None), "Nil"), (("make", "M.Some", NUM), "M.Some 1"), (("make", "Some", ("num", -1)), "Some -1"),
                            (("make", "Some", ("make", "Some", NUM)), "Some (Some 1)"), (("make", "Some", ("make", "No", None)), "Some No"), (("make", "Some", ("tuple", (NUM, NUM))), "Some (1, 1)"),
                            (("make", "Some", ("record", (("a", ("make", "Some", NUM)),))), "Some {a = Some 1}"), (("tuple", (("make", "Some", NUM), ("make", "Some", CLOSURE))), "(Some 1, Some fn)"), (CLOSURE, "fn"), (LOOP, "fn"),
                            (("cell", 3), "cell"), (("make", "Some", ("cell", 3)), "Some cell"), (("make", "Some", ("tuple", ())), "Some ()"), (("make", "Some", ("make", "Some", ("make", "Some", TRUTH))), "Some (Some (Some true))")]:
            self.assertEqual(show_value(thing), told)
        self.assertEqual(show_value(("record", tuple((label, NUM) for label in LABELS))), "{" + ", ".join(f"{label} = 1" for label in LABELS) + "}")
        self.assertTrue(is_term(CLOSURE[1]))


if __name__ == "__main__":
    unittest.main()
