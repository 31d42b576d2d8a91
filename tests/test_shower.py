"""[18]: what is shown, and read back."""

import random
import re
import unittest

from kindsworn.forms import is_kind, is_pattern, is_program, is_term
from kindsworn.reader import read_kind, read_pattern, read_program, read_term
from kindsworn.shower import show_kind, show_pattern, show_program, show_term
from kindsworn.wordsof import words_of
from tests.anything import frozen
from tests.samples import random_kind, random_pattern, random_term

NUM, TRUTH = ("num",), ("truth",)


def spread(text, chance):
    """The words of a text with other blanks, line feeds, remarks, or nothing between them."""
    told = ""
    for word, _, _ in words_of(text):
        joins = told and (told[-1].isalnum() or told[-1] in "_.-~?") and (word[0].isalnum() or word[0] in "_>.")
        between = chance.choice(["", "", " ", "\n", "  \n ", " # ) a remark\n", "#\n"])
        told += (between or (" " if joins else "")) + word
    return told


class ShowKindTest(unittest.TestCase):
    def test_word_by_word(self):
        for kind, text in [
                (NUM, "num"), (TRUTH, "truth"), (("to", NUM, TRUTH), "num -> truth"), (("tuple", ()), "()"),
                (("tuple", (NUM, TRUTH)), "(num, truth)"), (("tuple", (NUM, NUM, TRUTH)), "(num, num, truth)"),
                (("record", (("a", NUM), ("b", TRUTH)), None), "{a: num, b: truth}"), (("record", (), None), "{}"),
                (("record", (("a", NUM),), ("var", 0)), "{a: num | ?0}"), (("record", (), ("var", 12)), "{| ?12}"),
                (("cell", NUM), "cell num"), (("of", "List", ()), "List"), (("of", "M.P", (NUM, TRUTH)), "M.P num truth"),
                (("var", 0), "?0"), (("var", 999999999), "?999999999"), (("var", 10 ** 12), "?1000000000000"),
                (("to", NUM, ("to", NUM, NUM)), "num -> num -> num"), (("to", ("to", NUM, NUM), NUM), "(num -> num) -> num"),
                (("to", ("cell", NUM), ("of", "L", (NUM,))), "cell num -> L num"),
                (("to", ("of", "L", (NUM,)), ("cell", NUM)), "L num -> cell num"),
                (("cell", ("cell", NUM)), "cell (cell num)"), (("cell", ("to", NUM, NUM)), "cell (num -> num)"),
                (("cell", ("of", "L", ())), "cell L"), (("cell", ("of", "L", (NUM,))), "cell (L num)"),
                (("cell", ("tuple", (NUM, NUM))), "cell (num, num)"), (("cell", ("record", (), None)), "cell {}"),
                (("of", "L", (("cell", NUM), ("of", "M", ()), ("of", "M", (NUM,)), ("to", NUM, NUM), ("var", 3))),
                 "L (cell num) M (M num) (num -> num) ?3"),
                (("tuple", (("to", NUM, NUM), ("cell", NUM), ("of", "L", (NUM,)))), "(num -> num, cell num, L num)"),
                (("record", (("a", ("to", NUM, NUM)), ("b", ("cell", NUM))), ("var", 1)),
                 "{a: num -> num, b: cell num | ?1}")]:
            self.assertEqual(show_kind(kind), text)
            if "1000000000" not in text:
                self.assertEqual(read_kind(text), kind)

    def test_random_kinds(self):
        chance = random.Random(1)
        met = {}
        for _ in range(600):
            kind = random_kind(chance, 5)
            self.assertTrue(is_kind(kind))
            before = frozen(kind)
            text = show_kind(kind)
            self.assertNotIn("\n", text)
            self.assertEqual(frozen(read_kind(text)), before)
            self.assertEqual(frozen(read_kind(spread(text, chance))), before)
            self.assertEqual(met.setdefault(text, before), before)
            self.assertEqual(frozen(kind), before)

    def test_great_ones(self):
        kind = ("tuple", (NUM,) * 1999)
        self.assertEqual(read_kind(show_kind(kind)), kind)
        for _ in range(98):
            kind = ("to", NUM, ("cell", TRUTH)) if kind[0] == "tuple" else ("to", NUM, kind)
        self.assertEqual(read_kind(show_kind(kind)), kind)


class ShowPatternTest(unittest.TestCase):
    def test_word_by_word(self):
        x, y, none = ("bind", "x"), ("bind", "y"), ("make", "None", None)
        for pattern, text in [
                (("any",), "_"), (x, "x"), (("num", 5), "5"), (("num", -5), "~5"), (("num", -2147483648), "~2147483648"),
                (("truth", True), "true"), (("truth", False), "false"), (("tuple", ()), "()"), (("tuple", (x, y)), "(x, y)"),
                (("record", (("a", x), ("b", y))), "{a = x, b = y}"), (none, "None"), (("make", "M.Some", x), "M.Some x"),
                (("make", "Some", none), "Some None"), (("make", "Some", ("make", "Some", none)), "Some (Some None)"),
                (("make", "Some", ("tuple", (x, y))), "Some (x, y)"), (("make", "Some", ("any",)), "Some _"),
                (("tuple", (("make", "Some", x), y)), "(Some x, y)"),
                (("record", (("a", ("make", "Some", x)),)), "{a = Some x}")]:
            self.assertEqual(show_pattern(pattern), text)
            self.assertEqual(read_pattern(text), pattern)

    def test_random_patterns(self):
        chance = random.Random(2)
        for _ in range(600):
            pattern = random_pattern(chance, 4, [f"x{at}" for at in range(12)])
            self.assertTrue(is_pattern(pattern))
            before = frozen(pattern)
            text = show_pattern(pattern)
            self.assertEqual(frozen(read_pattern(text)), before)
            self.assertEqual(frozen(read_pattern(spread(text, chance))), before)


def levels():
    """Terms of each level, each with its level."""
    x = ("name", "x")
    found = [(0, ("fn", "x", x)), (0, ("let", "x", x, x)), (0, ("rec", (("f", ("fn", "x", x)),), x)), (0, ("if", x, x, x))]
    found += [(1, ("op", sign, x, x)) for sign in "<="] + [(2, ("op", sign, x, x)) for sign in "+-"]
    found += [(3, ("op", "*", x, x)), (4, ("make", "Some", x)), (4, ("call", x, x)), (4, ("put", x, x))]
    found += [(4, (word, x)) for word in ("new", "get", "tell")] + [(5, ("field", x, "a")), (5, ("make", "None", None))]
    found += [(6, ("num", 1)), (6, ("num", -1)), (6, ("truth", True)), (6, x), (6, ("name", "M.x")), (6, ("tuple", ()))]
    found += [(6, ("tuple", (x, x))), (6, ("record", (("a", x),))), (6, ("match", x, ((("any",), x),)))]
    return found


class ShowTermTest(unittest.TestCase):
    def test_word_by_word(self):
        for text in ("1", "~1", "true", "false", "x", "M.x", "fn x -> x", "f x", "let x = 1 in x", "let M.x = 1 in M.x",
                     "rec f = fn x -> x in f", "rec f = fn x -> x and M.g = fn y -> y in f", "if a then b else c", "()",
                     "(a, b)", "(a, b, c)", "{a = 1}", "{a = 1, b = 2}", "x.a", "M.x.a", "x.a.b", "None", "Some x",
                     "match x with | _ -> 1 end", "match x with | Some (x, _) -> 1 | {a = y} -> y | 5 -> () end",
                     "new x", "get x", "put x y", "tell x", "a + b", "a - b", "a * b", "a < b", "a = b",
                     "f x y z", "f x.a y.b", "f.a x", "(f x).a", "(None).a", "(Some x).a", "(Some) x", "Some None",
                     "Some (Some x)", "f None", "f (Some x)", "1.a", "~1.a", "().a", "{a = 1}.a", "(a, b).c",
                     "match x with | _ -> 1 end.a", "match x with | _ -> 1 end y", "(get c) (None + (fn x -> x))",
                     "(get c) x", "get (c x)", "(new x) y", "(fn x -> x) y", "(let x = 1 in x) y", "f (fn x -> x)",
                     "f (let x = 1 in x)", "f (a + b)", "(f + g) x", "a - b - c", "a - (b - c)", "a - (b + c)", "a + b * c",
                     "(a + b) * c", "a * (b * c)", "a * b * c", "a * (b + c)", "a < b + c", "(a < b) < c", "a < (b < c)",
                     "(a < b) + c", "a = (b = c)", "f a * g b", "(fn x -> x) + 1", "1 + (fn x -> x)",
                     "fn x -> fn y -> x + y", "if if a then b else c then fn x -> x else let y = 1 in y",
                     "let x = let y = 1 in y in fn z -> z", "rec f = fn x -> fn y -> x in rec g = fn x -> x in g",
                     "{a = fn x -> x, b = a < b}", "(fn x -> x, a = b, let x = 1 in x)",
                     "match fn x -> x with | x -> fn y -> y | _ -> if a then b else c end",
                     "rec f = fn x -> rec g = fn y -> y and h = fn z -> z in g and k = fn u -> u in k",
                     "put (f x) (new y)", "put x.a None", "tell (tell x)", "new (Some x)", "new None", "get x.a"):
            self.assertEqual(show_term(read_term(text)), text)

    def test_parentheses_just_where_they_are_wanted(self):
        x = ("name", "x")
        wants = [(2, lambda t: ("op", "<", t, x), "{} < x"), (2, lambda t: ("op", "=", x, t), "x = {}"),
                 (2, lambda t: ("op", "+", t, x), "{} + x"), (3, lambda t: ("op", "+", x, t), "x + {}"),
                 (2, lambda t: ("op", "-", t, x), "{} - x"), (3, lambda t: ("op", "-", x, t), "x - {}"),
                 (3, lambda t: ("op", "*", t, x), "{} * x"), (4, lambda t: ("op", "*", x, t), "x * {}"),
                 (2, lambda t: ("op", "=", t, x), "{} = x"), (2, lambda t: ("op", "<", x, t), "x < {}"),
                 (5, lambda t: ("call", x, t), "x {}"), (5, lambda t: ("make", "A", t), "A {}"),
                 (5, lambda t: ("new", t), "new {}"), (5, lambda t: ("get", t), "get {}"), (5, lambda t: ("tell", t), "tell {}"),
                 (5, lambda t: ("put", t, x), "put {} x"), (5, lambda t: ("put", x, t), "put x {}"),
                 (0, lambda t: ("fn", "x", t), "fn x -> {}"), (0, lambda t: ("let", "x", t, x), "let x = {} in x"),
                 (0, lambda t: ("let", "x", x, t), "let x = x in {}"), (0, lambda t: ("if", t, x, x), "if {} then x else x"),
                 (0, lambda t: ("if", x, t, x), "if x then {} else x"), (0, lambda t: ("if", x, x, t), "if x then x else {}"),
                 (0, lambda t: ("tuple", (x, t)), "(x, {})"), (0, lambda t: ("record", (("a", t),)), "{{a = {}}}"),
                 (0, lambda t: ("match", t, ((("any",), x),)), "match {} with | _ -> x end"),
                 (0, lambda t: ("match", x, ((("any",), t),)), "match x with | _ -> {} end"),
                 (0, lambda t: ("rec", (("f", ("fn", "x", t)),), x), "rec f = fn x -> {} in x"),
                 (0, lambda t: ("rec", (("f", ("fn", "x", x)),), t), "rec f = fn x -> x in {}"),
                 ("function", lambda t: ("call", t, x), "{} x"), ("field", lambda t: ("field", t, "a"), "{}.a")]
        for want, made, frame in wants:
            for level, term in levels():
                if want == "function":
                    bare = level == 6 or term[0] in ("call", "field")
                elif want == "field":
                    bare = level == 6 or term[0] == "field"
                else:
                    bare = level >= want
                within = show_term(term) if bare else f"({show_term(term)})"
                self.assertEqual(show_term(made(term)), frame.format(within))
                self.assertEqual(read_term(show_term(made(term))), made(term))

    def test_random_terms(self):
        chance = random.Random(3)
        met = {}
        for _ in range(800):
            term = random_term(chance, 5)
            self.assertTrue(is_term(term))
            before = frozen(term)
            text = show_term(term)
            self.assertNotIn("\n", text)
            self.assertEqual(frozen(read_term(text)), before)
            self.assertEqual(frozen(read_term(spread(text, chance))), before)
            self.assertEqual(frozen(read_term(f"(({text}))")), before)
            self.assertEqual(met.setdefault(text, before), before)
            self.assertEqual(frozen(term), before)
            self.assertIsNone(re.search(r"  |[({] |[^.]\.\s| [)},:]|[^ ({]\(|[^ ({]\{", text), text)

    def test_no_pair_of_parentheses_can_be_spared(self):
        chance = random.Random(4)
        spared = 0
        for _ in range(120):
            term = random_term(chance, 4)
            words = [word for word, _, _ in words_of(show_term(term))]
            ways = []
            for at, word in enumerate(words):
                if word == "(":
                    ways.append(at)
                if word == ")":
                    begin = ways.pop()
                    left = words[:begin] + words[begin + 1:at] + words[at + 1:]
                    try:
                        same = read_term(" ".join(left)) == term
                    except ValueError:
                        same = False
                    self.assertFalse(same, (show_term(term), begin))
                    spared += 1
        self.assertGreater(spared, 200)


class ShowProgramTest(unittest.TestCase):
    def test_line_by_line(self):
        for text in ("give 1", "kind T = A\ngive A", "kind List ?0 = Nil | Cons (?0, List ?0)\ngive Cons (1, Nil)",
                     "kind A.T ?0 ?1 = A.X ?1 | A.Y | A.Z (?0 -> ?1)\nkind U = V (cell num) | W (A.T num U) | X {a: num}\n"
                     "kind U2 = V2 () | W2 num | W3 (num, num) | W4 U | W5 {}\ngive fn x -> match x with | V y -> get y end"):
            self.assertEqual(show_program(read_program(text)), text)

    def test_random_programs(self):
        chance = random.Random(6)
        several = 0
        for _ in range(300):
            rows = []
            for at in range(chance.randrange(3)):
                many = chance.randrange(3)
                makers = [(f"M{at}.E", None)] + [(f"F{at}{k}", declared(chance, 3, many)) for k in range(chance.randrange(3))]
                rows.append((f"T{at}", many, tuple(makers)))
            term = random_term(chance, 3, uses=["x"])
            program = (tuple(rows), ("fn", "x", term))
            if not is_program(program):
                program = (tuple(rows), ("num", 1))
            self.assertTrue(is_program(program), program)
            several += len(rows) > 1
            text = show_program(program)
            self.assertEqual(frozen(read_program(text)), frozen(program))
            self.assertEqual(frozen(read_program(spread(text, chance))), frozen(program))
            self.assertEqual(text.count("\n"), len(rows))
        self.assertGreater(several, 30)


def declared(chance, room, many):
    """A kind that may stand in a declaration with so many parameters, or None."""
    kind = random_kind(chance, room, tuple(range(many)), ())
    return kind if "'of'" not in repr(kind) else chance.choice([None, ("cell", NUM)])


if __name__ == "__main__":
    unittest.main()
