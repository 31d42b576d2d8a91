"""[40]: what patterns forget, which are needless, and values that a pattern matches."""

import itertools
import random
import unittest

from kindsworn.forms import is_pattern
from kindsworn.missing import (
    is_left_to, is_missing, is_plain, left_to, missing, needless, some_value)
from kindsworn.patterns import bindings, first_row, lies_in, meet
from kindsworn.reader import read_kind, read_pattern, read_program
from kindsworn.shower import show_pattern
from kindsworn.trees import makers_of, names_of
from kindsworn.values import is_value
from tests.anything import STRANGE, any_values, frozen, spoilt
from tests.plain import put, suits
from tests.typed import DECLARATIONS, Maker

NUM, TRUTH = ("num",), ("truth",)


def declared(text):
    return read_program(text + " give 1")[0]


def rows_told(*texts):
    return [read_pattern(text) for text in texts]


def values_of(declarations, kind, depth, numbers):
    """All values of a plain kind, no more than so many makes within one another, with these numbers."""
    if kind == NUM:
        return [("num", number) for number in numbers]
    if kind == TRUTH:
        return [("truth", False), ("truth", True)]
    if kind[0] == "tuple":
        return [("tuple", some) for some in itertools.product(*[values_of(declarations, part, depth, numbers) for part in kind[1]])]
    if kind[0] == "record":
        parts = [values_of(declarations, part, depth, numbers) for _, part in kind[1]]
        return [("record", tuple(zip([label for label, _ in kind[1]], some))) for some in itertools.product(*parts)]
    found = []
    for name, _, rows in declarations:
        if name == kind[1] and depth > 0:
            for maker, within in rows:
                if within is None:
                    found.append(("make", maker, None))
                else:
                    within = put(within, dict(enumerate(kind[2])))
                    found.extend([("make", maker, one) for one in values_of(declarations, within, depth - 1, numbers)])
    return found


def plain_kind(chance, room):
    way = chance.randrange(7 if room else 2)
    again = lambda: plain_kind(chance, room - 1)
    if way == 0:
        return NUM
    if way in (1, 2):
        return TRUTH
    if way == 3:
        return ("tuple", (again(), again()))
    if way == 4:
        return ("record", (("a", again()), ("b", again())), None)
    if way == 5:
        return ("of", chance.choice(["Opt", "List"]), (again(),))
    return ("of", "Two", (again(), again()))


def makes_of(kind):
    """How many makes within one another a value needs at most, if each part of it is as small as can be."""
    parts = kind[1] if kind[0] == "tuple" else [part for _, part in kind[1]] if kind[0] == "record" else (
        kind[2] if kind[0] == "of" else [])
    return max([0] + [makes_of(part) for part in parts]) + (kind[0] == "of")


def many_values(kind, depth):
    """How many values values_of tells."""
    if kind in (NUM, TRUTH):
        return 4 if kind == NUM else 2
    if kind[0] == "of":
        if depth == 0:
            return 0
        given = [many_values(part, depth - 1) for part in kind[2]]
        if kind[1] == "List":
            return 1 + given[0] * many_values(kind, depth - 1)
        return 1 + given[0] if kind[1] == "Opt" else given[0] + given[1]
    many = 1
    for part in kind[1] if kind[0] == "tuple" else [part for _, part in kind[1]]:
        many *= many_values(part, depth)
    return many


def depth_of(pattern):
    if pattern[0] == "make":
        return 1 + (0 if pattern[2] is None else depth_of(pattern[2]))
    parts = pattern[1] if pattern[0] == "tuple" else [part for _, part in pattern[1]] if pattern[0] == "record" else []
    return max([0] + [depth_of(part) for part in parts])


def makers_fit(declarations, pattern):
    takes = {maker: kind is not None for _, _, rows in declarations for maker, kind in rows}
    todo = [pattern]
    while todo:
        one = todo.pop()
        if one[0] == "make":
            if one[1] not in takes or takes[one[1]] != (one[2] is not None):
                return False
            todo.extend([] if one[2] is None else [one[2]])
        elif one[0] == "tuple":
            todo.extend(one[1])
        elif one[0] == "record":
            todo.extend([part for _, part in one[1]])
    return True


def plainly_missing(declarations, kind, patterns, thing):
    return is_pattern(thing) and makers_fit(declarations, thing) and suits(declarations, thing, kind, {}) and all(
        meet(thing, other) is None for other in patterns)


class MissingTest(unittest.TestCase):
    def right(self, declarations, kind, patterns):
        """That what is told is right; what is missing."""
        before = frozen((declarations, kind, patterns))
        found = missing(declarations, kind, patterns)
        self.assertEqual(missing(declarations, kind, tuple(patterns)), found)
        self.assertEqual(frozen((declarations, kind, patterns)), before)
        if found is not None:
            self.assertEqual(names_of(found), ())
            self.assertTrue(plainly_missing(declarations, kind, patterns, found), (kind, patterns, found))
            self.assertIs(is_missing(declarations, kind, patterns, found), True)
        return found

    def test_whole_or_not(self):
        for kind, rows, whole in [
                ("num", [], False), ("num", ["_"], True), ("num", ["x"], True), ("num", ["0"], False), ("num", ["0", "1", "2", "~1"], False), ("num", ["0", "_"], True),
                ("truth", ["true"], False), ("truth", ["true", "false"], True), ("truth", ["false"], False), ("()", [], False), ("()", ["()"], True), ("(truth, truth)", ["(true, _)"], False),
                ("(truth, truth)", ["(true, _)", "(_, true)"], False), ("(truth, truth)", ["(true, _)", "(_, true)", "(false, false)"], True), ("(truth, num)", ["(true, _)", "(false, 0)"], False),
                ("?0", [], False), ("?0", ["x"], True), ("?0 -> ?1", ["_"], True), ("?0 -> ?1", [], False), ("cell num", ["_"], True), ("cell num", [], False), ("(cell num, truth)", ["(_, true)"], False),
                ("(num -> num, ?0)", ["(_, _)"], True), ("{a: truth | ?0}", ["{a = true}"], False), ("{a: truth | ?0}", ["{a = true}", "{a = x}"], True), ("{}", [], False), ("{}", ["_"], True),
                ("{a: truth, b: truth}", ["{a = true}", "{b = true}"], False), ("{a: truth, b: truth}", ["{a = true}", "{b = true}", "{a = false, b = false}"], True),
                ("{a: truth, b: num}", ["{a = true}", "{a = false}"], True), ("Opt num", ["Some _"], False), ("Opt num", ["No"], False), ("Opt num", ["No", "Some x"], True), ("Opt num", ["No", "Some 1"], False),
                ("Opt truth", ["No", "Some true", "Some false"], True), ("Opt (Opt ?0)", ["No", "Some No", "Some (Some _)"], True), ("Opt (Opt ?0)", ["No", "Some (Some _)"], False), ("List ?0", ["Nil", "Cons _"], True),
                ("List ?0", ["Nil", "Cons (_, Nil)"], False), ("List ?0", ["Nil", "Cons (_, Nil)", "Cons (_, Cons _)"], True), ("List truth", ["Nil", "Cons (true, _)", "Cons (_, Nil)"], False),
                ("Odd", ["End", "More No"], False), ("Odd", ["End", "More No", "More (Some _)"], True), ("Fun ?0", ["Fun _"], True), ("Two ?0 truth", ["Left _", "Right true"], False), ("Two ?0 truth", ["Left _", "Right true", "Right false"], True),
                ("(Opt ?0, Opt ?0)", ["(No, No)", "(Some _, Some _)"], False), ("(Opt ?0, Opt ?0)", ["(No, _)", "(_, No)", "(Some _, Some _)"], True), ("(num, truth)", ["(1, true)", "(_, false)", "(x, true)"], True)]:
            found = self.right(DECLARATIONS, read_kind(kind), rows_told(*rows))
            self.assertEqual(found is None, whole, (kind, rows, found))

    def test_kinds_that_need_themselves(self):
        some = declared("kind T = Leaf (List T) | Node (T, T) kind List ?0 = Nil | Cons (?0, List ?0) kind Grow ?0 = Stop ?0 | Grow (Grow (?0, ?0))")
        for kind, rows, whole in [
                ("T", ["Leaf _", "Node (_, _)"], True), ("T", ["Leaf Nil", "Node (Leaf _, _)", "Node (_, Leaf _)"], False), ("T", ["Leaf Nil", "Leaf (Cons _)", "Node (Leaf _, _)", "Node (Node _, _)"], True),
                ("Grow truth", ["Stop _", "Grow (Stop (true, _))", "Grow (Grow _)"], False), ("Grow truth", ["Stop _", "Grow (Stop (true, _))", "Grow (Stop (false, _))", "Grow (Grow _)"], True),
                ("Grow truth", ["Stop true", "Stop false", "Grow _"], True), ("Grow ?0", ["Stop _", "Grow (Grow (Grow (Grow (Grow (Grow (Grow _))))))"], False)]:
            found = self.right(some, read_kind(kind), rows_told(*rows))
            self.assertEqual(found is None, whole, (kind, rows, found))

    def test_all_values(self):
        """Patterns are whole just if each value, with numbers that no pattern has too, is matched."""
        chance = random.Random(40)
        whole = left = 0
        while whole + left < 500:
            kind = plain_kind(chance, 2)
            patterns = [Maker(chance, 0).pattern(kind, {}, 3) for _ in range(chance.randrange(7))]
            deepest = max([0] + [depth_of(one) for one in patterns]) + makes_of(kind)
            if many_values(kind, deepest) > 3000:
                continue
            values = values_of(DECLARATIONS, kind, deepest, (0, 1, 2, 7))
            found = self.right(DECLARATIONS, kind, patterns)
            matched = [first_row(patterns, value) for value in values]
            self.assertEqual(found is None, None not in matched, (kind, patterns))
            self.assertEqual(needless(DECLARATIONS, kind, patterns), tuple(
                at for at in range(len(patterns))
                if all(first_row(patterns[:at], value) is not None for value in values if bindings(patterns[at], value) is not None)))
            whole += found is None
            left += found is not None
        self.assertGreater(min(whole, left), 60)

    def test_again_and_again(self):
        for kind, rows, most in [("(truth, truth, truth)", ["(true, false, true)"], 12), ("List (Opt truth)", ["Cons (Some true, Cons (No, Nil))"], 12), ("truth", [], 1),
                                 ("(Opt truth, Opt truth)", ["(Some true, Some false)", "(No, No)"], 14), ("{a: truth, b: Opt ?0 | ?1}", ["{b = Some _}"], 8), ("Odd", ["More (Some (More (Some End)))"], 8)]:
            patterns = rows_told(*rows)
            for _ in range(most):
                found = self.right(DECLARATIONS, read_kind(kind), patterns)
                if found is None:
                    break
                patterns.append(found)
            self.assertIsNone(missing(DECLARATIONS, read_kind(kind), patterns), (kind, [show_pattern(one) for one in patterns]))

    def test_numbers_that_do_not_matter(self):
        """Where any number is left over, no number is told: so it ends, if finitely many can make patterns whole."""
        for kind, rows, most in [("(num, truth)", ["(0, true)", "(x, true)"], 1), ("(truth, num)", ["(true, 3)", "(true, x)", "(true, 4)"], 1), ("(num, num)", ["(0, 1)", "(1, 0)", "(_, _)"], 0),
                                 ("(num, Opt (num, truth))", ["(0, Some (1, true))", "(_, Some (_, true))", "(_, Some (2, true))"], 2), ("{a: num, b: truth}", ["{a = 1, b = false}", "{b = false}"], 1),
                                 ("(num, num, Opt truth)", ["(1, 1, No)", "(1, _, No)", "(_, _, No)", "(5, _, Some true)", "(_, _, Some true)"], 1), ("(List num, truth)", ["(Cons (1, Nil), true)", "(_, true)"], 1)]:
            patterns = rows_told(*rows)
            for _ in range(most):
                found = self.right(DECLARATIONS, read_kind(kind), patterns)
                self.assertNotIn("num", repr(found))
                patterns.append(found)
            self.assertIsNone(missing(DECLARATIONS, read_kind(kind), patterns), (kind, [show_pattern(one) for one in patterns]))

    def test_random_numbers_that_do_not_matter(self):
        chance = random.Random(48)
        many = 0
        for _ in range(6000):
            kind = plain_kind(chance, chance.choice([1, 2]))
            loose = [without_numbers(Maker(chance, 0).pattern(kind, {}, 3)) for _ in range(chance.randrange(1, 4))]
            # Rows ahead that lie in those behind, with numbers, change nothing of what is left over.
            ahead = [with_numbers(chance, one) for one in loose]
            patterns = [one for one in ahead if suits(DECLARATIONS, one, kind, {})] + loose
            if "num" not in repr(patterns):
                continue
            for _ in range(100):
                found = self.right(DECLARATIONS, kind, patterns)
                if found is None:
                    break
                self.assertNotIn("num", repr(found))
                patterns.append(found)
                many += 1
            self.assertIsNone(found)
        self.assertGreater(many, 60)

    def test_random_ones_again_and_again(self):
        chance = random.Random(41)
        for _ in range(120):
            kind = plain_kind(chance, 2)
            if "num" in repr(kind):
                continue
            patterns = [Maker(chance, 0).pattern(kind, {}, 3) for _ in range(chance.randrange(4))]
            for _ in range(200):
                found = self.right(DECLARATIONS, kind, patterns)
                if found is None:
                    break
                patterns.append(found)
            self.assertIsNone(found)

    def test_numbers(self):
        patterns = []
        for number in list(range(-3, 9)) + [2147483647, -2147483648]:
            patterns.append(("num", number))
            found = self.right((), NUM, patterns)
            self.assertEqual(found[0], "num")
        self.assertEqual(self.right((), NUM, []), ("any",))

    def test_wide_ones(self):
        kind = ("tuple", (TRUTH,) * 20)
        rows = []
        for at in range(8):
            rows.append(("tuple", tuple(("truth", (at + place) % 3 == 0) if place % 2 == at % 2 else ("any",) for place in range(20))))
        self.right((), kind, rows)
        both = [("tuple", (("any",),) * at + (("truth", True),) + (("any",),) * (19 - at)) for at in range(20)]
        self.assertEqual(self.right((), kind, both), ("tuple", (("truth", False),) * 20))
        self.assertIsNone(self.right((), kind, both + [("tuple", (("truth", False),) * 20)]))


def without_numbers(pattern):
    """The pattern with any instead of each number."""
    if pattern[0] == "num":
        return ("any",)
    if pattern[0] == "tuple":
        return ("tuple", tuple(without_numbers(part) for part in pattern[1]))
    if pattern[0] == "record":
        return ("record", tuple((label, without_numbers(part)) for label, part in pattern[1]))
    if pattern[0] == "make" and pattern[2] is not None:
        return ("make", pattern[1], without_numbers(pattern[2]))
    return pattern


def with_numbers(chance, pattern):
    """The pattern with a number instead of some that match all; it need not suit the same kinds."""
    if pattern[0] in ("any", "bind"):
        return ("num", chance.randrange(4)) if chance.randrange(2) else pattern
    if pattern[0] == "tuple":
        return ("tuple", tuple(with_numbers(chance, part) for part in pattern[1]))
    if pattern[0] == "record":
        return ("record", tuple((label, with_numbers(chance, part)) for label, part in pattern[1]))
    if pattern[0] == "make" and pattern[2] is not None:
        return ("make", pattern[1], with_numbers(chance, pattern[2]))
    return pattern


class IsMissingTest(unittest.TestCase):
    def test_right_and_wrong_ones(self):
        for kind, rows, thing, told in [
                ("num", ["0"], "5", True), ("num", ["0"], "0", False), ("num", ["0"], "_", False), ("num", ["0"], "x", False), ("num", ["0"], "true", False), ("num", [], "x", True), ("num", [], "()", False),
                ("Opt num", ["Some _"], "No", True), ("Opt num", ["Some 1"], "Some 2", True), ("Opt num", ["Some 1"], "Some x", False), ("Opt num", ["Some 1"], "Some true", False), ("Opt num", ["Some 1"], "Nil", False),
                ("Opt num", ["Some 1"], "Gone", False), ("Opt num", ["Some 1"], "Gone 1", False), ("Opt ?0", ["Some _"], "No", True), ("?0", [], "No", False), ("?0", [], "_", True), ("(num, num)", ["(1, _)"], "(2, x)", True),
                ("(num, num)", ["(1, _)"], "(2, x, y)", False), ("{a: num, b: num}", ["{a = 1}"], "{a = 2}", True), ("{a: num, b: num}", ["{a = 1}"], "{b = 2}", False), ("{a: num, b: num}", ["{a = 1}"], "{a = 2, c = _}", False),
                ("{a: num, b: num | ?0}", ["{a = 1}"], "{a = 2, b = x}", True), ("num -> num", [], "x", True), ("num -> num", [], "1", False), ("cell num", [], "1", False)]:
            for rows_form in (rows_told(*rows), tuple(rows_told(*rows))):
                self.assertIs(is_missing(DECLARATIONS, read_kind(kind), rows_form, read_pattern(thing)), told, (kind, rows, thing))

    def test_makers_with_and_without(self):
        opt = read_kind("Opt num")
        for thing in [("make", "Some", None), ("make", "No", ("any",)), ("make", "No", ("bind", "x"))]:
            self.assertTrue(is_pattern(thing))
            self.assertIs(is_missing(DECLARATIONS, opt, [], thing), False)
        self.assertIs(is_missing(DECLARATIONS, opt, [], ("make", "No", None)), True)
        twice = ("tuple", (("bind", "x"), ("bind", "x")))
        self.assertIs(is_missing(DECLARATIONS, read_kind("(num, num)"), [], twice), False)

    def test_any_value(self):
        for value in any_values() + STRANGE:
            before = frozen(value)
            for kind, patterns in [(NUM, []), (NUM, [("num", 0)]), (("tuple", ()), []), (read_kind("?0"), ()), (read_kind("Opt num"), [])]:
                expected = plainly_missing(DECLARATIONS, kind, patterns, value)
                self.assertIs(is_missing(DECLARATIONS, kind, patterns, value), expected, before[:60])
                rows = list(patterns) + [("any",)]
                self.assertIs(is_left_to(DECLARATIONS, kind, rows, len(patterns), value), expected, before[:60])
                self.assertIs(is_left_to(DECLARATIONS, kind, rows + [("any",)], len(rows), value), False)
            self.assertEqual(frozen(value), before)

    def test_one_place_otherwise(self):
        kind = read_kind("(Opt num, {a: truth, b: List num | ?0})")
        patterns = rows_told("(No, _)", "(Some 1, {a = true})", "(_, {b = Cons (1, _)})")
        thing = read_pattern("(Some 2, {a = true, b = Cons (2, x)})")
        self.assertIs(is_missing(DECLARATIONS, kind, patterns, thing), True)
        met = {True: 0, False: 0}
        for other in spoilt(thing):
            expected = plainly_missing(DECLARATIONS, kind, patterns, other)
            self.assertIs(is_missing(DECLARATIONS, kind, patterns, other), expected, other)
            self.assertIs(is_left_to(DECLARATIONS, kind, patterns + [("any",)], 3, other), expected, other)
            narrow = patterns + rows_told("(Some _, {b = Cons (2, _)})")
            self.assertIs(is_left_to(DECLARATIONS, kind, narrow, 3, other), expected and lies_in(other, narrow[3]), other)
            met[expected] += 1
        self.assertGreater(min(met.values()), 3)

    def test_deep_things(self):
        some = declared("kind Grow ?0 = Stop ?0 | Grow (Grow (?0, ?0))")
        kind = ("of", "Grow", (NUM,))
        thing = ("make", "Stop", ("any",))
        for _ in range(29):
            self.assertIs(is_missing(some, kind, [], thing), True)
            self.assertIs(is_missing(some, kind, [thing], thing), False)
            thing = ("make", "Grow", thing)
        wrong = ("make", "Stop", ("num", 1))
        self.assertIs(is_missing(some, kind, [], wrong), True)
        self.assertIs(is_missing(some, kind, [], ("make", "Grow", wrong)), False)


class LeftToTest(unittest.TestCase):
    def test_left_to(self):
        for kind, rows, told in [
                ("truth", ["true", "_", "false"], [True, True, False]), ("Opt num", ["Some 1", "_", "Some 2", "No"], [True, True, False, False]), ("num", ["1", "1", "2", "x", "3"], [True, False, True, True, False]),
                ("(truth, truth)", ["(true, _)", "(_, true)", "(true, true)", "(false, _)", "(_, _)"], [True, True, False, True, False]),
                ("{a: truth, b: truth}", ["{a = true}", "{b = true}", "{a = true, b = false}", "{a = false, b = false}", "x"], [True, True, False, True, False]), ("?0", ["_", "x"], [True, False]),
                ("List truth", ["Nil", "Cons (true, _)", "Cons (false, _)", "Cons _", "_"], [True, True, True, False, False]), ("Opt (cell num)", ["Some _", "Some x", "No"], [True, False, True]),
                ("(num, num)", ["(1, _)", "(_, 1)", "(1, 1)", "(2, 2)", "(x, y)"], [True, True, False, True, True]), ("()", ["_", "()"], [True, False])]:
            kind, patterns = read_kind(kind), rows_told(*rows)
            for at, right in enumerate(told):
                before = frozen(patterns)
                found = left_to(DECLARATIONS, kind, patterns, at)
                self.assertEqual(left_to(DECLARATIONS, kind, tuple(patterns), at), found)
                self.assertEqual(frozen(patterns), before)
                self.assertEqual(found is not None, right, (rows, at, found))
                if found is not None:
                    self.assertTrue(lies_in(found, patterns[at]) and plainly_missing(DECLARATIONS, kind, patterns[:at], found))
                    self.assertEqual(names_of(found), ())
                    self.assertIs(is_left_to(DECLARATIONS, kind, patterns, at, found), True)
            self.assertEqual(needless(DECLARATIONS, kind, patterns), tuple(at for at, right in enumerate(told) if not right))
            self.assertEqual(needless(DECLARATIONS, kind, tuple(patterns)), needless(DECLARATIONS, kind, patterns))
        self.assertEqual(needless(DECLARATIONS, NUM, []), ())

    def test_is_left_to(self):
        rows = rows_told("Some 1", "_", "Some 2", "No")
        opt = read_kind("Opt num")
        for at, thing, told in [(0, "Some 1", True), (0, "Some 2", False), (0, "No", False), (0, "_", False), (1, "No", True), (1, "Some 2", True), (1, "Some 1", False), (1, "Some x", False),
                                (1, "_", False), (2, "Some 2", False), (3, "No", False)]:
            self.assertIs(is_left_to(DECLARATIONS, opt, rows, at, read_pattern(thing)), told, (at, thing))
            self.assertIs(is_left_to(DECLARATIONS, opt, tuple(rows), at, read_pattern(thing)), told)

    def test_random_ones(self):
        chance = random.Random(42)
        some = 0
        for _ in range(300):
            kind = plain_kind(chance, 2)
            patterns = [Maker(chance, 0).pattern(kind, {}, 3) for _ in range(chance.randrange(1, 6))]
            for at in range(len(patterns)):
                found = left_to(DECLARATIONS, kind, patterns, at)
                if found is not None:
                    some += 1
                    self.assertIs(is_left_to(DECLARATIONS, kind, patterns, at, found), True)
                    self.assertTrue(lies_in(found, patterns[at]) and plainly_missing(DECLARATIONS, kind, patterns[:at], found))
        self.assertGreater(some, 300)


class PlainTest(unittest.TestCase):
    def test_is_plain(self):
        some = declared("kind A = A1 B | A2 kind B = B1 (cell num) | B2 A kind C ?0 = C1 | C2 (?0, C ?0) kind D ?0 = D1 (C (num -> ?0)) | D2 "
                        "kind E ?0 = E1 (E (?0, ?0)) | E2 ?0 kind P ?0 = P1 kind R = R1 {a: num, b: R} | R2")
        for kind, told in [("num", True), ("truth", True), ("()", True), ("(num, truth)", True), ("?0", False), ("num -> num", False), ("cell num", False), ("(num, cell num)", False), ("{a: num}", True),
                           ("{a: num | ?0}", False), ("{}", True), ("{| ?0}", False), ("A", False), ("B", False), ("C num", True), ("C ?0", False), ("C (C truth)", True), ("C A", False), ("D num", False),
                           ("E num", True), ("E (num -> num)", False), ("P num", True), ("P (cell num)", False), ("P ?0", False), ("P A", False), ("R", True), ("(R, B)", False)]:
            self.assertIs(is_plain(some, read_kind(kind)), told, kind)

    def right(self, declarations, kind, pattern):
        before = frozen((declarations, kind, pattern))
        value = some_value(declarations, kind, pattern)
        self.assertEqual(frozen((declarations, kind, pattern)), before)
        self.assertTrue(is_value(value))
        self.assertIsNotNone(bindings(pattern, value))
        self.assertTrue(is_of(declarations, kind, value), (kind, pattern, value))
        return value

    def test_some_value(self):
        some = declared("kind A = A1 B | A3 (A, A) kind B = B1 C kind C = C1 (List A) | C2 A kind List ?0 = Cons (?0, List ?0) | Nil "
                        "kind D ?0 ?1 = D1 ?0 | D2 ?1 kind T = T1 (D T num) | T2 (T, T) kind E ?0 = E1 (E (?0, ?0)) | E2 ?0 kind F = F1 (E (D F truth))")
        for kind, pattern in [("A", "_"), ("A", "A3 (_, A3 _)"), ("B", "x"), ("C", "C1 (Cons (_, Cons _))"), ("List B", "Cons _"), ("T", "_"), ("T", "T2 (T1 _, _)"), ("T", "T1 (D1 (T1 (D1 _)))"),
                              ("E num", "E1 (E1 (E2 x))"), ("E num", "_"), ("E truth", "E1 (E1 (E2 ((true, _), x)))"), ("F", "_"), ("F", "F1 (E1 _)"), ("{a: A, b: num}", "{b = 5}"), ("{a: num}", "_"), ("{}", "_"),
                              ("(num, truth)", "(~7, false)"), ("(num, truth)", "(x, true)"), ("()", "()"), ("D T T", "D2 _")]:
            self.right(some, read_kind(kind), read_pattern(pattern))

    def test_random_ones(self):
        chance = random.Random(43)
        for _ in range(300):
            kind = plain_kind(chance, 3)
            self.right(DECLARATIONS, kind, Maker(chance, 0).pattern(kind, {}, 4))

    def test_what_is_missing_has_a_value(self):
        chance = random.Random(44)
        for _ in range(200):
            kind = plain_kind(chance, 2)
            patterns = [Maker(chance, 0).pattern(kind, {}, 3) for _ in range(chance.randrange(4))]
            found = missing(DECLARATIONS, kind, patterns)
            if found is not None:
                self.assertIsNone(first_row(patterns, self.right(DECLARATIONS, kind, found)))


def is_of(declarations, kind, value):
    """Whether a value is of a plain kind."""
    if kind[0] in ("num", "truth"):
        return value[0] == kind[0]
    if kind[0] != {"make": "of"}.get(value[0], value[0]):
        return False
    if kind[0] == "tuple":
        return len(kind[1]) == len(value[1]) and all(is_of(declarations, a, b) for a, b in zip(kind[1], value[1]))
    if kind[0] == "record":
        return [label for label, _ in kind[1]] == [label for label, _ in value[1]] and all(
            is_of(declarations, a, b) for (_, a), (_, b) in zip(kind[1], value[1]))
    rows = dict([row for name, _, rows in declarations if name == kind[1] for row in rows])
    if value[1] not in rows or (rows[value[1]] is None) != (value[2] is None):
        return False
    return value[2] is None or is_of(declarations, put(rows[value[1]], dict(enumerate(kind[2]))), value[2])


if __name__ == "__main__":
    unittest.main()
