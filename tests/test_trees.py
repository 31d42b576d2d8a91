"""[13], [14]: terms as trees."""

import random
import unittest

from kindsworn import trees
from kindsworn.forms import is_term
from kindsworn.reader import read_pattern, read_term
from tests import oracle
from tests.anything import frozen
from tests.samples import random_term

ALL_FORMS = {
    "7": (), "true": (), "x": (), "fn x -> y": ("y",), "f x": ("f", "x"), "let x = a in b": ("a", "b"),
    "rec f = fn x -> a and g = fn y -> b in c": ("fn x -> a", "fn y -> b", "c"), "if a then b else c": ("a", "b", "c"),
    "()": (), "(a, b, c)": ("a", "b", "c"), "{a = x, b = y}": ("x", "y"), "x.a": ("x",), "None": (), "Some x": ("x",),
    "match a with | x -> b | (y, z) -> c end": ("a", "b", "c"), "new x": ("x",), "get x": ("x",),
    "put x y": ("x", "y"), "x + y": ("x", "y"), "x < y": ("x", "y"), "tell x": ("x",),
}


def plain(term, taken, names=None, numbers=None):
    """plain_names, told once more."""
    names = names or {}
    numbers = numbers if numbers is not None else []

    def fresh():
        number = numbers[-1] + 1 if numbers else 0
        while f"v{number}" in taken:
            number += 1
        numbers.append(number)
        return f"v{number}"

    head = term[0]
    again = lambda part, more: plain(part, taken, {**names, **more}, numbers)
    if head == "name":
        return ("name", names.get(term[1], term[1]))
    if head == "fn":
        own = fresh()
        return ("fn", own, again(term[2], {term[1]: own}))
    if head == "let":
        own = fresh()
        one = again(term[2], {})
        return ("let", own, one, again(term[3], {term[1]: own}))
    if head == "rec":
        own = {name: fresh() for name, _ in term[1]}
        group = tuple((own[name], again(function, own)) for name, function in term[1])
        return ("rec", group, again(term[2], own))
    if head == "match":
        one = again(term[1], {})
        rows = []
        for pattern, body in term[2]:
            own = {}

            def called(pattern):
                if pattern[0] == "bind":
                    own[pattern[1]] = fresh()
                    return ("bind", own[pattern[1]])
                if pattern[0] == "tuple":
                    return ("tuple", tuple([called(part) for part in pattern[1]]))
                if pattern[0] == "record":
                    return ("record", tuple([(label, called(part)) for label, part in pattern[1]]))
                return ("make", pattern[1], called(pattern[2])) if pattern[0] == "make" and pattern[2] else pattern

            made = called(pattern)
            rows.append((made, again(body, own)))
        return ("match", one, tuple(rows))
    return trees.with_parts(term, [again(part, {}) for part in trees.parts_of(term)])


class PartsTest(unittest.TestCase):
    def test_parts_of_all_forms(self):
        for text, parts in ALL_FORMS.items():
            self.assertEqual(trees.parts_of(read_term(text)), tuple(read_term(part) for part in parts), text)

    def test_with_parts(self):
        for text, parts in ALL_FORMS.items():
            term = read_term(text)
            self.assertEqual(trees.with_parts(term, trees.parts_of(term)), term)
            others = tuple(("fn", "q", ("num", at)) for at in range(len(parts)))
            made = trees.with_parts(term, others)
            self.assertEqual(trees.parts_of(made), others)
            self.assertTrue(is_term(made))
            self.assertEqual(trees.with_parts(made, trees.parts_of(term)), term)
            self.assertEqual(trees.with_parts(term, list(others)), made)

    def test_places(self):
        term = read_term("rec f = fn x -> x + 1 in match f 2 with | x -> (x, 3) | _ -> None end")
        places = ((), (0,), (0, 0), (0, 0, 0), (0, 0, 1), (1,), (1, 0), (1, 0, 0), (1, 0, 1), (1, 1), (1, 1, 0),
                  (1, 1, 1), (1, 2))
        self.assertEqual(trees.places_of(term), places)
        self.assertEqual(trees.size_of(term), 13)
        self.assertEqual(trees.places_of(("tuple", ())), ((),))
        self.assertEqual(trees.part_at(term, ()), term)
        self.assertEqual(trees.part_at(term, (1, 1, 1)), ("num", 3))
        self.assertEqual(trees.part_at(term, (1, 2)), ("make", "None", None))
        many = ("tuple", (("num", 1),) * 12)
        self.assertEqual(trees.places_of(many), ((),) + tuple((at,) for at in range(12)))

    def test_with_part(self):
        term = read_term("rec f = fn x -> x + 1 in match f 2 with | x -> (x, 3) | _ -> None end")
        for place in trees.places_of(term):
            made = trees.with_part(term, place, ("name", "other"))
            self.assertEqual(trees.part_at(made, place), ("name", "other"))
            self.assertEqual(trees.with_part(made, place, trees.part_at(term, place)), term)
            for other in trees.places_of(term):
                if other[:len(place)] != place and place[:len(other)] != other:
                    self.assertEqual(trees.part_at(made, other), trees.part_at(term, other))
        self.assertEqual(trees.with_part(term, (), ("num", 1)), ("num", 1))

    def test_random_terms(self):
        chance = random.Random(11)
        for _ in range(300):
            term = random_term(chance, 5)
            before = frozen(term)
            places = trees.places_of(term)
            self.assertEqual(list(places), sorted(set(places)))
            self.assertEqual(len(places), trees.size_of(term))
            place = chance.choice(places)
            self.assertEqual(trees.with_part(term, place, trees.part_at(term, place)), term)
            self.assertEqual(trees.free_names(term), tuple(sorted(oracle.free(term))))
            self.assertEqual(frozen(term), before)


class NamesTest(unittest.TestCase):
    def test_patterns(self):
        pattern = read_pattern("B (z, A {a = y, b = (B x, A, _)}, 1)")
        self.assertEqual(trees.names_of(pattern), ("x", "y", "z"))
        self.assertEqual(trees.makers_of(pattern), ("B", "A", "B", "A"))
        for text in ("_", "1", "true", "()"):
            self.assertEqual(trees.names_of(read_pattern(text)), ())
            self.assertEqual(trees.makers_of(read_pattern(text)), ())
        self.assertEqual(trees.makers_of(read_pattern("M.A M.B")), ("M.A", "M.B"))

    def test_free_names(self):
        for text, names in [("7", ()), ("x", ("x",)), ("fn x -> x y", ("y",)), ("let x = x in x z", ("x", "z")),
                            ("let M.x = M.x in M.x z", ("M.x", "z")), ("b a b", ("a", "b")),
                            ("rec f = fn x -> g x h and g = fn g -> f g in f i", ("h", "i")),
                            ("match x with | (x, y) -> x y z | {a = z} -> x z end", ("x", "z")),
                            ("let x = 1 in fn y -> let y = x in y", ()), ("(fn x -> x) x", ("x",)),
                            ("rec f = fn f -> f in f", ()), ("{a = x, b = M.y}", ("M.y", "x"))]:
            self.assertEqual(trees.free_names(read_term(text)), names, text)

    def test_bound_at(self):
        term = read_term("fn z -> rec f = fn x -> a and g = fn y -> b in let x = c in "
                         "match d with | (p, Q o) -> e | z -> f end")
        for place, names in [((), ()), ((0,), ("z",)), ((0, 0), ("f", "g", "z")), ((0, 0, 0), ("f", "g", "x", "z")),
                             ((0, 1, 0), ("f", "g", "y", "z")), ((0, 2), ("f", "g", "z")),
                             ((0, 2, 0), ("f", "g", "z")), ((0, 2, 1), ("f", "g", "x", "z")),
                             ((0, 2, 1, 0), ("f", "g", "x", "z")), ((0, 2, 1, 1), ("f", "g", "o", "p", "x", "z")),
                             ((0, 2, 1, 2), ("f", "g", "x", "z"))]:
            self.assertEqual(trees.bound_at(term, place), names, place)

    def test_settled(self):
        for text in ("1", "false", "x", "M.x", "fn x -> f x", "None", "()", "(1, fn x -> f x)", "{a = x, b = (1, y)}",
                     "Some (Some x)", "Some {a = fn x -> new x}"):
            self.assertIs(trees.is_settled(read_term(text)), True, text)
        for text in ("f x", "let x = 1 in x", "rec f = fn x -> x in f", "if true then 1 else 2", "x.a", "new 1",
                     "get x", "put x 1", "1 + 1", "tell 1", "match x with | _ -> 1 end", "(1, f x)", "{a = x.a}",
                     "Some (x, y, f x)", "Some (Some (1 < 2))"):
            self.assertIs(trees.is_settled(read_term(text)), False, text)

    def test_plain_names(self):
        for text, told in [
                ("x", "x"), ("fn x -> x y", "fn v0 -> v0 y"), ("fn a -> fn a -> a", "fn v0 -> fn v1 -> v1"),
                ("let x = fn y -> y x in x", "let v0 = fn v1 -> v1 x in v0"),
                ("let M.x = 1 in M.x N.x", "let v0 = 1 in v0 N.x"),
                ("rec f = fn x -> f g and g = fn y -> x y in f g", "rec v0 = fn v2 -> v0 v1 and v1 = fn v3 -> x v3 in v0 v1"),
                ("match fn a -> a with | (b, {a = a}) -> fn c -> a b c | d -> d a end",
                 "match fn v0 -> v0 with | (v1, {a = v2}) -> fn v3 -> v2 v1 v3 | v4 -> v4 a end"),
                ("fn x -> v0 x", "fn v1 -> v0 v1"), ("fn x -> fn y -> v1 v0 v3 x y", "fn v2 -> fn v4 -> v1 v0 v3 v2 v4"),
                ("fn v1 -> fn v0 -> v0 v1", "fn v0 -> fn v1 -> v1 v0"),
                ("(fn v0 -> v0) v0", "(fn v1 -> v1) v0"), ("fn v00 -> v00 v01", "fn v0 -> v0 v01"),
                ("let v0 = v0 in v0", "let v1 = v0 in v1")]:
            self.assertEqual(trees.plain_names(read_term(text)), read_term(told), text)

    def test_plain_names_of_random_terms(self):
        chance = random.Random(5)
        for _ in range(400):
            term = random_term(chance, 5)
            made = trees.plain_names(term)
            self.assertEqual(made, plain(term, oracle.free(term)))
            self.assertEqual(trees.plain_names(made), made)
            self.assertEqual(trees.free_names(made), trees.free_names(term))
            self.assertTrue(trees.are_alike(term, made))
            self.assertTrue(is_term(made))

    def test_are_alike(self):
        for one, other, told in [
                ("fn x -> fn y -> x y", "fn y -> fn x -> y x", True), ("fn x -> fn y -> x y", "fn x -> fn y -> y x", False),
                ("fn x -> y", "fn y -> y", False), ("fn x -> fn y -> z", "fn z -> fn y -> z", False),
                ("let x = x in x", "let y = x in y", True), ("let x = x in x", "let y = y in y", False),
                ("match 1 with | (x, y) -> x end", "match 1 with | (y, x) -> y end", True),
                ("match 1 with | (x, y) -> x end", "match 1 with | (y, x) -> x end", False),
                ("match 1 with | (x, _) -> 1 end", "match 1 with | (_, x) -> 1 end", False),
                ("rec f = fn x -> g and g = fn x -> f in f", "rec g = fn y -> f and f = fn x -> g in g", True),
                ("rec f = fn x -> g and g = fn x -> f in f", "rec g = fn y -> f and f = fn x -> g in f", False),
                ("{a = 1}", "{b = 1}", False), ("1", "true", False), ("x", "x", True), ("x", "y", False),
                ("fn x -> x v0", "fn v0 -> v0 v0", False), ("fn x -> x v0", "fn y -> y v0", True),
                ("x.a", "x.b", False), ("None", "Some", False), ("1 + 2", "1 - 2", False)]:
            self.assertIs(trees.are_alike(read_term(one), read_term(other)), told, (one, other))


if __name__ == "__main__":
    unittest.main()
