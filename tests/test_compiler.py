"""[54] to [58]: scopes, notes, rows made, the whole, depths."""

import random
import unittest

from kindsworn.compiler import code_of, depths_of, greatest_depth, laid
from kindsworn.forms import is_program
from kindsworn.machine import Machine
from kindsworn.reader import read_term
from kindsworn.scopes import captures_of, scope_within, wheres_of
from kindsworn.taking import is_taken
from kindsworn.trees import free_names
from kindsworn.words import is_code
from tests.anything import frozen
from tests.plaincompiler import plain_code
from tests.programs import ENDLESS, STUCK, TEXTS, program
from tests.typed import lets_program, mixed_program, random_program

GIVE = ("give",)


def t(text):
    return read_term(text)


def rows_of(text):
    """Rows from a text like `local 0; push; op +`."""
    rows = []
    for row in text.split(";"):
        head, *rest = row.split()
        rows.append((head,) + tuple({"True": True, "False": False}.get(one, int(one) if one.lstrip("-").isdigit() else one) for one in rest))
    return tuple(rows)


class ScopesTest(unittest.TestCase):
    GROUP = (("f", t("fn x -> g (a, x)")), ("g", t("fn y -> f (b, M.z)")), ("h", t("fn g -> g (c, h)")))

    def test_captures(self):
        for sort, names in [
                (("closure", t("fn x -> x")), ()), (("closure", t("fn x -> (x, y, a)")), ("a", "y")), (("closure", t("fn x -> fn y -> (x, y, M.z, b)")), ("M.z", "b")), (("loop", self.GROUP, 0), ("M.z", "a", "b", "c")), (("loop", self.GROUP, 2), ("M.z", "a", "b", "c")),
                (("loop", (("f", t("fn f -> f")),), 0), ()), (("loop", (("f", t("fn x -> x")), ("x", t("fn a -> (f, x, a)"))), 1), ())]:
            before = frozen(sort)
            self.assertEqual(frozen(captures_of(sort)), frozen(names))
            self.assertEqual(frozen(sort), before)

    def scope(self, functions, f, wanted):
        before = frozen(functions)
        found = scope_within(functions, f)
        self.assertEqual(found, wanted)
        self.assertEqual(list(found), sorted(found))
        self.assertEqual(frozen(functions), before)
        again = frozen(found)
        found.clear()
        self.assertEqual(frozen(scope_within(functions, f)), again)

    def test_scope_within(self):
        names = ("M.z", "a", "b", "c")
        captured = {name: ("captured", at) for at, name in enumerate(names)}
        functions = ((0, ("closure", t("fn a -> (a, b, c)")), ("b", "c")),) + tuple((5, ("loop", self.GROUP, at), names) for at in range(3)) + ((9, ("closure", t("fn m -> 1")), ()),)
        self.scope(functions, 0, {"a": ("local", 0), "b": ("captured", 0), "c": ("captured", 1)})
        self.scope(functions, 1, {**captured, "f": ("own",), "g": ("sibling", 2), "h": ("sibling", 3), "x": ("local", 0)})
        self.scope(functions, 2, {**captured, "f": ("sibling", 1), "g": ("own",), "h": ("sibling", 3), "y": ("local", 0)})
        self.scope(functions, 3, {**captured, "f": ("sibling", 1), "g": ("local", 0), "h": ("own",)})
        self.scope(functions, 4, {"m": ("local", 0)})
        self.scope(((0, ("loop", (("f", t("fn f -> f")),), 0), ()),), 0, {"f": ("local", 0)})

    def test_wheres(self):
        scope = {"x": ("local", 3), "a": ("own",), "M.b": ("captured", 2), "z": ("sibling", 5)}
        self.assertEqual(frozen(wheres_of(scope, ("z", "M.b"))), frozen((("M.b", ("captured", 2)), ("z", ("sibling", 5)))))
        self.assertEqual(wheres_of(scope, ()), ())
        self.assertEqual(wheres_of(scope, ("x",)), (("x", ("local", 3)),))
        self.assertEqual(wheres_of(scope, ("x", "a", "z", "M.b")), (("M.b", ("captured", 2)), ("a", ("own",)), ("x", ("local", 3)), ("z", ("sibling", 5))))
        self.assertEqual(wheres_of(scope, ["x", "a", "x"]), (("a", ("own",)), ("x", ("local", 3))))


class FormsTest(unittest.TestCase):
    """The rows of each form, at an end, and bare: as the left side of an op."""

    MAKERS = ("Nil", "Cons", "No", "Some", "Leaf", "Node", "Fun")

    def body_of(self, text):
        """The code of a function of x, and the index of the first row of its body."""
        term = ("fn", "x", t(text))
        code = laid(program("1")[0], term)
        self.assertTrue(is_code(code))
        self.assertEqual([code[0][:2], code[3]], [(("closure", 0, 0), ("back",)), self.MAKERS])
        return code

    def ends(self, text, rows):
        code = self.body_of(text)
        self.assertEqual(code[0][2:], rows_of(rows), text)

    def bares(self, text, rows):
        """Bare at the depth 2, behind one own word more."""
        code = self.body_of(f"1 + {text}")
        self.assertEqual(code[0][2:], rows_of("give 11; push; " + rows + "; op +; back"), text)

    def test_plain_ones(self):
        for text, row in [("5", "give 51"), ("~3", "give -29"), ("true", "give 13"), ("false", "give 3"), ("()", "give 5"), ("Nil", "give 7"), ("No", "give 27"), ("Leaf", "give 47"), ("x", "local 0")]:
            self.ends(text, row + "; back")
            self.bares(text, row)

    def test_fn(self):
        code = self.body_of("fn y -> (x, y)")
        self.assertEqual(code[0][2:], rows_of("local 0; push; closure 1 1; back; captured 0; push; local 0; push; tuple 2; back"))
        self.assertEqual(code[1][1], (6, ("closure", t("fn y -> (x, y)")), ("x",)))
        self.ends("fn y -> 1", "closure 1 0; back; give 11; back")
        code = self.body_of("let y = 1 in fn z -> fn w -> (x, (y, z), w)")
        self.assertEqual(code[0][2:9], rows_of("give 11; push; local 0; push; local 1; push; closure 1 2"))
        self.assertEqual(code[0][10:17], rows_of("captured 0; push; captured 1; push; local 0; push; closure 2 3"))
        self.assertEqual([function[2] for function in code[1]], [(), ("x", "y"), ("x", "y", "z")])

    def test_call(self):
        self.ends("x 5", "local 0; push; give 51; tail")
        self.bares("(x 5)", "local 0; push; give 51; call")
        self.ends("x 1 2", "local 0; push; give 11; call; push; give 21; tail")
        self.ends("x (x 1)", "local 0; push; local 0; push; give 11; call; tail")

    def test_let(self):
        self.ends("let y = 1 in y", "give 11; push; local 1; back")
        self.bares("(let y = 1 in y)", "give 11; push; local 2; drop 1")
        self.ends("let x = x in let x = x in x", "local 0; push; local 1; push; local 2; back")
        self.ends("let y = let z = 1 in z in y", "give 11; push; local 1; drop 1; push; local 1; back")
        self.ends("let M.y = 1 in M.y", "give 11; push; local 1; back")

    def test_rec(self):
        self.ends("rec f = fn y -> f x in f", "local 0; push; closure 1 1; push; local 1; back; own; push; captured 0; tail")
        code = self.body_of("1 + (rec f = fn y -> g y and g = fn y -> f x in f 1)")
        self.assertEqual(code[0][2:20], rows_of("give 11; push; local 0; push; closure 1 1; push; local 0; push; closure 2 1; push; local 2; push; give 11; call; drop 2; op +; back; sibling 2"))
        self.assertEqual(code[0][19:], rows_of("sibling 2; push; local 0; tail; sibling 1; push; captured 0; tail"))
        self.assertEqual([function[0] for function in code[1]], [2, 19, 23])

    def test_if(self):
        self.ends("if x then 1 else 2", "local 0; unless 6; give 11; back; give 21; back")
        self.bares("(if x then 1 else 2)", "local 0; unless 8; give 11; go 9; give 21")

    def test_tuple_and_record(self):
        self.ends("(x, 1, x)", "local 0; push; give 11; push; local 0; push; tuple 3; back")
        self.bares("(x, x)", "local 0; push; local 0; push; tuple 2")
        self.ends("{a = x}", "local 0; push; record 0 1; back")
        self.bares("{a = 1, b = x}", "give 11; push; local 0; push; record 0 2")

    def test_one_part(self):
        for text, row in [("x.a", "label a"), ("Some x", "make 3"), ("new x", "new"), ("get x", "get"), ("tell x", "tell")]:
            self.ends(text, f"local 0; {row}; back")
            self.bares(f"({text})", f"local 0; {row}")

    def test_two_parts(self):
        self.ends("put x 1", "local 0; push; give 11; put; back")
        self.bares("(put x 1)", "local 0; push; give 11; put")
        for sign in "+-*<=":
            self.ends(f"x {sign} 1", f"local 0; push; give 11; op {sign}; back")
            self.bares(f"(x {sign} 1)", f"local 0; push; give 11; op {sign}")

    def test_match(self):
        self.ends("match x with | y -> y end", "local 0; push; local 1; push; local 2; back; none")
        self.bares("(match x with | y -> y end)", "local 0; push; local 2; push; local 3; drop 2; go 12; none")
        self.ends("match x with | 1 -> 2 | true -> 3 | No -> 4 | _ -> 5 end",
                  "local 0; push; local 1; notnum 1 8; give 21; back; local 1; nottruth True 12; give 31; back; local 1; notmaker 2 16; give 41; back; give 51; back; none")
        self.ends("match x with | (a, (Some b, ~7), {p = c, q = false}) -> (b, a) end",
                  "local 0; push; local 1; item 1; item 0; notmaker 3 34; local 1; item 1; item 1; notnum -7 34; local 1; item 2; label q; nottruth False 34; "
                  "local 1; item 0; push; local 1; item 1; item 0; inside; push; local 1; item 2; label p; push; local 3; push; local 2; push; tuple 2; back; none")
        self.ends("match x with | Some (Some 1) -> 2 end", "local 0; push; local 1; notmaker 3 15; local 1; inside; notmaker 3 15; local 1; inside; inside; notnum 1 15; give 21; back; none")


class NotesTest(unittest.TestCase):
    def notes(self, text, *wanted):
        code = laid(program("1")[0], ("fn", "x", t(text)))
        self.assertEqual([code[4][0], code[4][1]], [(("do", ("fn", "x", t(text)), ()), ()), (GIVE, ())])
        self.assertEqual(list(code[4][2:]), list(wanted), text)

    def test_notes(self):
        x, xs = ("name", "x"), (("x", ("local", 0)),)
        self.notes("x", (("do", x, xs), ()), (GIVE, ()))
        self.notes("5", (("do", t("5"), ()), ()), (GIVE, ()))
        argument, applied = ("argument", t("(x, 1)"), xs), ("apply", ("slot", 1))
        one, two = ("tuple", (), (t("1"),), ()), ("tuple", (("slot", 2),), (), ())
        self.notes("x (x, 1)", (("do", t("x (x, 1)"), xs), ()), (GIVE, (argument,)), (("do", t("(x, 1)"), xs), (applied,)), (GIVE, (one, applied)), (("do", t("1"), ()), (two, applied)), (GIVE, (two, applied)), (GIVE, (two, applied)), (GIVE, (applied,)))
        waits = ("let", "y", t("(x, y)"), xs)
        first, last = ("tuple", (), (t("y"),), (("y", ("local", 1)),)), ("tuple", (("slot", 2),), (), ())
        self.notes("let y = 1 in (x, y)", (("do", t("let y = 1 in (x, y)"), xs), ()), (GIVE, (waits,)), (("do", t("(x, y)"), xs + (("y", ("local", 1)),)), ()), (GIVE, (first,)), (("do", t("y"), (("y", ("local", 1)),)), (last,)), (GIVE, (last,)), (GIVE, (last,)), (GIVE, ()))
        choice = ("if", t("1"), x, xs)
        self.notes("if x then 1 else x", (("do", t("if x then 1 else x"), xs), ()), (GIVE, (choice,)), (("do", t("1"), ()), ()), (GIVE, ()), (("do", x, xs), ()), (GIVE, ()))
        record = ("record", ("a",), (), (), ())
        self.notes("{a = x}.a", (("do", t("{a = x}.a"), xs), ()), (GIVE, (record, ("field", "a"))), (GIVE, (record, ("field", "a"))), (GIVE, (("field", "a"),)), (GIVE, ()))
        self.notes("put x x", (("do", t("put x x"), xs), ()), (GIVE, (("put", x, xs),)), (("do", x, xs), (("putto", ("slot", 1)),)), (GIVE, (("putto", ("slot", 1)),)), (GIVE, ()))
        self.notes("1 - x", (("do", t("1 - x"), xs), ()), (GIVE, (("op", "-", x, xs),)), (("do", x, xs), (("opto", "-", ("slot", 1)),)), (GIVE, (("opto", "-", ("slot", 1)),)), (GIVE, ()))
        for text, frame in [("Some x", ("make", "Some")), ("new x", ("new",)), ("get x", ("get",)), ("tell x", ("tell",))]:
            self.notes(text, (("do", t(text), xs), ()), (GIVE, (frame,)), (GIVE, ()))

    def test_fn_and_rec(self):
        self.notes("fn x -> 1", (("do", t("fn x -> 1"), ()), ()), (GIVE, ()), (("do", t("1"), ()), ()), (GIVE, ()))
        xs = (("x", ("local", 0)),)
        do = (("do", t("rec f = fn y -> x in 2"), xs), ())
        self.notes("rec f = fn y -> x in 2", do, do, do, do, (("do", t("2"), ()), ()), (GIVE, ()), (("do", ("name", "x"), (("x", ("captured", 0)),)), ()), (GIVE, ()))

    def test_match(self):
        match = t("match x with | (1, y) -> x | _ -> 2 end")
        frame = ("match", match[2], (("x", ("local", 0)),))
        test, give = (("give", 1), (frame,)), (GIVE, ())
        xs = (("x", ("local", 0)),)
        self.notes("match x with | (1, y) -> x | _ -> 2 end", (("do", match, xs), ()), (GIVE, (frame,)), test, test, test, test, test, test, (("do", ("name", "x"), xs), ()), give, (("do", t("2"), ()), ()), give, test)

    def test_bare_ones(self):
        """Bare rows at the end of an if, a let, a rec and a match give to what waits for the whole."""
        waits = ("opto", "+", ("slot", 1))
        for text, rows in [("(if x then 1 else 2)", {"go": 1}), ("(let y = 1 in 2)", {"drop": 1}), ("(rec f = fn y -> y in 2)", {"drop": 1}), ("(match x with | 1 -> 2 | _ -> 3 end)", {"drop": 2, "go": 2})]:
            code = laid((), ("fn", "x", t("1 + " + text)))
            for head, many in rows.items():
                found = [note for row, note in zip(code[0], code[4]) if row[0] == head]
                self.assertEqual(found, [(GIVE, (waits,))] * many)


class WholeTest(unittest.TestCase):
    def beside(self, one):
        before = frozen(one)
        code = code_of(one)
        self.assertEqual(frozen(one), before)
        self.assertEqual(frozen(code), frozen(plain_code(one)))
        self.assertEqual(frozen(laid(*one)), frozen(code))
        self.assertIs(is_code(code), True)
        self.assertEqual(code[3], tuple(maker for _, _, rows in one[0] for maker, _ in rows))
        for beginning, sort, names in code[1]:
            self.assertEqual(names, captures_of(sort))
            fn = sort[1] if sort[0] == "closure" else sort[1][sort[2]][1]
            self.assertEqual(code[4][beginning][0][:2], ("do", fn[2]))

    def test_programs(self):
        for text in [row[0] for row in TEXTS] + ENDLESS + STUCK:
            self.beside(program(text))

    def test_random_programs(self):
        chance = random.Random(56)
        for _ in range(200):
            self.beside(random_program(chance, chance.choice([3, 4, 5]), chance.choice([0, 300])))
            for one in (lets_program(chance), mixed_program(chance)):
                if is_program(one):
                    self.beside(one)

    def test_numbers_of_functions(self):
        code = laid((), t("((fn a -> fn b -> a) (fn c -> 1), rec f = fn d -> fn e -> f and g = fn h -> f in fn i -> g)"))
        names = [sort[1][1] if sort[0] == "closure" else sort[1][sort[2]][0] for _, sort, _ in code[1]]
        self.assertEqual(names, ["a", "c", "f", "g", "i", "b", "e"])
        beginnings = [beginning for beginning, _, _ in code[1]]
        self.assertEqual(beginnings, sorted(beginnings))

    def test_order_of_labels(self):
        code = laid((), t("({a = {b = 1}, c = fn x -> {d = 1}}, {b = 2}, {a = 1})"))
        self.assertEqual(code[2], (("b",), ("a", "c"), ("a",), ("d",)))
        self.assertEqual([row for row in code[0] if row[0] == "record"], [("record", 0, 1), ("record", 1, 2), ("record", 0, 1), ("record", 2, 1), ("record", 3, 1)])

    def test_without_a_kind(self):
        code = code_of(program("1 1"))
        self.assertEqual(code[0], (("give", 11), ("push",), ("give", 11), ("tail",)))


class DepthsTest(unittest.TestCase):
    def test_depths(self):
        code = laid((), t("fn x -> match x with | y -> (x, y) | 1 -> (fn z -> 2, x) end"))
        rows = [row[0] for row in code[0]]
        self.assertEqual(rows, ["closure", "back", "local", "push", "local", "push", "local", "push", "local", "push", "tuple", "back", "local", "notnum", "closure", "push", "local", "push", "tuple", "back", "none", "give", "back"])
        self.assertEqual(frozen(depths_of(code)), frozen([0, 0, 1, 1, 2, 2, 3, 3, 4, 4, 5, 3] + [None] * 9 + [1, 1]))
        self.assertEqual(greatest_depth(code), 5)

    def test_if_and_go(self):
        code = laid((), t("1 + (if true then 2 else 3)"))
        self.assertEqual(code[0], rows_of("give 11; push; give 13; unless 6; give 21; go 7; give 31; op +; back"))
        self.assertEqual(depths_of(code), [0, 0, 1, 1, 1, 1, 1, 1, 0])
        self.assertEqual(greatest_depth(code), 1)
        self.assertEqual([depths_of(laid((), ("num", 1))), greatest_depth(laid((), ("num", 1)))], [[0, 0], 0])

    def test_none_behind_what_always_matches(self):
        code = laid((), t("match 1 with | x -> x end"))
        self.assertEqual(depths_of(code), [0, 0, 1, 1, 2, 2, None])
        code = laid((), t("match 1 with | 1 -> 2 end"))
        self.assertEqual(depths_of(code), [0, 0, 1, 1, 1, 1, 1])

    def test_call_and_put(self):
        code = laid((), t("fn f -> (f 1, put f 2)"))
        self.assertEqual(code[0][2:], rows_of("local 0; push; give 11; call; push; local 0; push; give 21; put; push; tuple 2; back"))
        self.assertEqual(depths_of(code)[2:], [1, 1, 2, 2, 1, 2, 2, 3, 3, 2, 3, 1])

    def test_by_all_ways(self):
        """However a row is come to, there are as many own words."""
        chance = random.Random(58)
        taken = 0
        for _ in range(300):
            one = random_program(chance, chance.choice([3, 4, 5]), 0)
            code = code_of(one)
            depths = depths_of(code)
            self.assertEqual(len(depths), len(code[0]))
            self.assertEqual(greatest_depth(code), max(depth for depth in depths if depth is not None))
            if not is_taken(one):
                continue
            taken += 1
            machine = Machine(code, 500, (False, True))
            for _ in range(150):
                told = machine.shown()
                self.assertEqual(depths[told["place"]], len(told["pile"]) - told["base"])
                machine.step()
        self.assertGreater(taken, 150)


if __name__ == "__main__":
    unittest.main()
