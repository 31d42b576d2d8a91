"""[38], [39]: what patterns match, and two of them."""

import random
import unittest

from kindsworn.forms import is_pattern
from kindsworn.patterns import bindings, first_row, lies_in, meet
from kindsworn.reader import read_pattern
from kindsworn.trees import names_of
from kindsworn.values import is_value
from tests.anything import frozen
from tests.samples import LABELS, random_pattern

NUM, TRUTH = ("num", 1), ("truth", True)


def value_told(text):
    """The value that looks like a pattern without names."""
    return read_pattern(text)


def random_value(chance, room):
    way = chance.randrange(7 if room else 3)
    again = lambda: random_value(chance, room - 1)
    if way == 0:
        return ("num", chance.choice([0, -7, 3]))
    if way == 1:
        return ("truth", chance.choice([True, False]))
    if way == 2:
        return chance.choice([("make", "Nil", None), ("cell", 0), ("tuple", ()), ("closure", ("fn", "x", ("num", 1)), ())])
    if way in (3, 4):
        return ("tuple", tuple(again() for _ in range(chance.choice([0, 2, 3]))))
    if way == 5:
        return ("record", tuple((label, again()) for label in sorted(chance.sample(LABELS, chance.randrange(4)))))
    return ("make", chance.choice(["Nil", "Cons", "Some"]), chance.choice([None, again()]))


def fitting_value(chance, pattern, room):
    """A value that a pattern matches."""
    if pattern[0] in ("any", "bind"):
        return random_value(chance, room)
    if pattern[0] == "tuple":
        return ("tuple", tuple(fitting_value(chance, part, room) for part in pattern[1]))
    if pattern[0] == "record":
        fields = {label: random_value(chance, 1) for label in LABELS if chance.randrange(2)}
        fields.update({label: fitting_value(chance, part, room) for label, part in pattern[1]})
        return ("record", tuple(sorted(fields.items())))
    if pattern[0] == "make":
        return pattern[:2] + (None if pattern[2] is None else fitting_value(chance, pattern[2], room),)
    return pattern


def plainly(pattern, value, found):
    """Whether a pattern matches a value; what it binds is put into a dict."""
    if pattern[0] == "bind":
        found[pattern[1]] = value
    if pattern[0] in ("any", "bind"):
        return True
    if pattern[0] != value[0]:
        return False
    if pattern[0] == "tuple":
        return len(pattern[1]) == len(value[1]) and all([plainly(a, b, found) for a, b in zip(pattern[1], value[1])])
    if pattern[0] == "record":
        return all([label in dict(value[1]) and plainly(part, dict(value[1])[label], found) for label, part in pattern[1]])
    if pattern[0] == "make":
        if pattern[1] != value[1] or (pattern[2] is None) != (value[2] is None):
            return False
        return pattern[2] is None or plainly(pattern[2], value[2], found)
    return pattern[1] == value[1]


def some_pattern(chance, room):
    return random_pattern(chance, room, ["a", "b", "x", "y", "v0"])


class BindingsTest(unittest.TestCase):
    def test_each_form(self):
        closure, loop = ("closure", ("fn", "x", ("name", "x")), ()), ("loop", (("f", ("fn", "x", ("name", "x"))),), 0, ())
        for pattern, value, told in [
                ("_", NUM, {}), ("x", NUM, {"x": NUM}), ("x", closure, {"x": closure}), ("x", loop, {"x": loop}), ("x", ("cell", 3), {"x": ("cell", 3)}),
                ("1", NUM, {}), ("1", ("num", 2), None), ("1", TRUTH, None), ("true", TRUTH, {}), ("false", TRUTH, None), ("true", NUM, None),
                ("0", ("truth", False), None), ("1", closure, None), ("1", ("cell", 1), None), ("()", ("tuple", ()), {}), ("()", ("tuple", (NUM, NUM)), None),
                ("(y, x)", ("tuple", (NUM, TRUTH)), {"x": TRUTH, "y": NUM}), ("(x, y)", ("tuple", (NUM, NUM, NUM)), None), ("(x, y)", ("record", ()), None),
                ("(x, 2)", ("tuple", (NUM, NUM)), None), ("{a = x}", ("record", (("a", NUM),)), {"x": NUM}), ("{a = x}", ("record", (("a", NUM), ("b", TRUTH))), {"x": NUM}),
                ("{a = x}", ("record", (("b", NUM),)), None), ("{a = x}", ("record", ()), None), ("{a = 2}", ("record", (("a", NUM),)), None),
                ("{a = x, b = 1}", ("record", (("a", TRUTH), ("b", NUM), ("c", NUM))), {"x": TRUTH}), ("Nil", ("make", "Nil", None), {}), ("Nil", ("make", "No", None), None),
                ("Nil", ("make", "Nil", NUM), None), ("Some x", ("make", "Some", NUM), {"x": NUM}), ("Some x", ("make", "Some", None), None), ("Some x", ("make", "M.Some", NUM), None),
                ("Some 2", ("make", "Some", NUM), None), ("Some (Some x)", ("make", "Some", ("make", "Some", TRUTH)), {"x": TRUTH}), ("Some x", NUM, None)]:
            found = bindings(read_pattern(pattern), value)
            self.assertEqual(found, told, (pattern, value))
            if told is not None:
                self.assertEqual(list(found), sorted(found))

    def test_random_ones(self):
        chance = random.Random(38)
        some = none = 0
        for _ in range(3000):
            pattern = some_pattern(chance, 3)
            value = fitting_value(chance, pattern, 2) if chance.randrange(2) else fitting_value(chance, some_pattern(chance, 2), 2)
            self.assertTrue(is_pattern(pattern) and is_value(value))
            before = frozen((pattern, value))
            expected = {}
            if not plainly(pattern, value, expected):
                expected = None
            found = bindings(pattern, value)
            self.assertEqual(found, expected)
            self.assertEqual(frozen((pattern, value)), before)
            if found is None:
                none += 1
            else:
                some += 1
                self.assertEqual(tuple(found), names_of(pattern))
        self.assertGreater(min(some, none), 500)

    def test_first_row(self):
        rows = [read_pattern(text) for text in ("1", "(x, 1)", "(1, x)", "Some _", "(_, _)")]
        for value, told in [(NUM, 0), (("num", 2), None), (("tuple", (NUM, NUM)), 1), (("tuple", (NUM, TRUTH)), 2), (("tuple", (TRUTH, TRUTH)), 4),
                            (("make", "Some", NUM), 3), (TRUTH, None), (("cell", 0), None)]:
            self.assertEqual(first_row(rows, value), told)
            self.assertEqual(first_row(tuple(rows), value), told)
        self.assertIsNone(first_row([], NUM))
        self.assertIsNone(first_row((), NUM))
        self.assertEqual(first_row([("any",), ("any",)], NUM), 0)


class TwoPatternsTest(unittest.TestCase):
    def test_meet(self):
        for one, other, told in [
                ("_", "_", "_"), ("x", "y", "_"), ("x", "(y, 1)", "(_, 1)"), ("1", "x", "1"), ("1", "1", "1"), ("1", "2", None), ("true", "true", "true"), ("true", "false", None),
                ("1", "true", None), ("()", "()", "()"), ("()", "(x, y)", None), ("(x, y)", "(x, y, z)", None), ("(x, 1)", "(2, y)", "(2, 1)"), ("(x, 1)", "(2, 3)", None),
                ("Nil", "Nil", "Nil"), ("Nil", "Some x", None), ("Some x", "Some 1", "Some 1"), ("Some 1", "Some 2", None), ("Some x", "M.Some x", None), ("Some x", "x", "Some _"),
                ("{a = x}", "{b = y}", "{a = _, b = _}"), ("{a = 1}", "{a = x, b = 2}", "{a = 1, b = 2}"), ("{a = 1}", "{a = 2, b = 2}", None), ("{a = 1}", "(x, y)", None),
                ("{b = {a = 1}}", "{b = {c = x}, d = 1}", "{b = {a = 1, c = _}, d = 1}"), ("{a = 1}", "x", "{a = 1}"), ("Some (x, 1)", "Some (2, y)", "Some (2, 1)"), ("1", "()", None)]:
            expected = None if told is None else read_pattern(told)
            self.assertEqual(meet(read_pattern(one), read_pattern(other)), expected, (one, other))
            self.assertEqual(meet(read_pattern(other), read_pattern(one)), expected, (one, other))
        self.assertIsNone(meet(("make", "A", None), ("make", "A", ("any",))))
        self.assertIsNone(meet(("make", "A", ("any",)), ("make", "A", None)))

    def test_lies_in(self):
        for one, other, told in [
                ("_", "_", True), ("x", "_", True), ("_", "x", True), ("1", "x", True), ("x", "1", False), ("1", "1", True), ("1", "2", False), ("true", "true", True),
                ("true", "false", False), ("()", "()", True), ("_", "()", False), ("()", "_", True), ("(x, 1)", "(_, _)", True), ("(_, _)", "(x, 1)", False), ("(x, y)", "(x, y, z)", False),
                ("Nil", "Nil", True), ("Nil", "No", False), ("Some 1", "Some x", True), ("Some x", "Some 1", False), ("{a = 1, b = 2}", "{a = 1}", True), ("{a = 1}", "{a = 1, b = x}", False),
                ("{a = 1}", "{a = 2}", False), ("{a = 1, b = _}", "{b = x}", True), ("{a = 1}", "(x, y)", False), ("(x, y)", "{a = 1}", False), ("(1, Some (2, 3))", "(x, Some (y, 3))", True)]:
            self.assertIs(lies_in(read_pattern(one), read_pattern(other)), told, (one, other))
        self.assertIs(lies_in(("make", "A", None), ("make", "A", ("any",))), False)
        self.assertIs(lies_in(("make", "A", ("any",)), ("make", "A", None)), False)

    def test_random_ones(self):
        chance = random.Random(39)
        met = {"meet": 0, "none": 0, "lies": 0}
        for _ in range(4000):
            one, other = some_pattern(chance, 3), some_pattern(chance, chance.choice([1, 3]))
            before = frozen((one, other))
            both = meet(one, other)
            self.assertEqual(meet(other, one), both)
            inside = lies_in(one, other)
            self.assertEqual(frozen((one, other)), before)
            for value in [fitting_value(chance, one, 1), fitting_value(chance, other, 1)] + ([fitting_value(chance, both, 1)] if both else []):
                right = plainly(one, value, {}) and plainly(other, value, {})
                self.assertEqual(both is not None and plainly(both, value, {}), right)
                if inside:
                    self.assertTrue(plainly(other, value, {}) or not plainly(one, value, {}))
            met["none"] += both is None
            met["lies"] += inside
            if both is not None:
                met["meet"] += 1
                self.assertEqual(names_of(both), ())
                self.assertTrue(is_pattern(both))
                self.assertTrue(lies_in(both, one) and lies_in(both, other))
                self.assertTrue(plainly(both, fitting_value(chance, both, 1), {}))
                self.assertEqual(inside, both == meet(one, ("any",)))
            self.assertIs(lies_in(one, one), True)
        self.assertGreater(min(met.values()), 300)


if __name__ == "__main__":
    unittest.main()
