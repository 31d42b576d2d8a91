"""[19], [20]: modules, and their texts."""

import random
import unittest

from kindsworn import modules
from kindsworn.errors import NoText, Wrong
from kindsworn.modules import is_module
from kindsworn.moduletexts import read_modules, show_modules
from tests.anything import any_values, frozen
from tests.samples import random_module
from tests.test_shower import spread

NUM = ("num",)
X, FN = ("name", "x"), ("fn", "x", ("name", "x"))


class IsModuleTest(unittest.TestCase):
    def test_any_value(self):
        for value in any_values():
            before = frozen(value)
            self.assertIs(is_module(value), False)
            self.assertEqual(frozen(value), before)

    def test_right_ones(self):
        for thing in [("M", (), (), ()), ("M", ("A", "B"), (), ()), ("M", (), (("let", "x", X),), ()),
                      ("M", (), (("let", "x", X), ("let", "x", X)), ()), ("M", (), (("rec", (("f", FN), ("g", FN))),), ()),
                      ("M", (), (("kind", ("T", 1, (("A", ("var", 0)), ("B", None)))),), ()),
                      ("M", (), (("kind", ("T", 0, (("A", ("of", "No.No", (NUM, NUM))), ("A", None)))),), ()),
                      ("M", (), (("kind", ("T", 0, (("T", ("of", "T", ())),))),), ()),
                      ("M", (), (("let", "x", ("name", "M.x")),), (("value", "no"), ("kind", "No"), ("open", "No"))),
                      ("M", (), (("let", "x", ("let", "y", X, ("name", "A.b"))),), (("value", "x"),)),
                      ("M" * 20, ("N" * 20,), (), (("value", "v" * 20),))]:
            self.assertIs(is_module(thing), True, thing)

    def test_wrong_ones(self):
        def items(*rows):
            return ("M", (), tuple(rows), ())

        for thing in [("m", (), (), ()), ("M.N", (), (), ()), ("M", ("M",), (), ()), ("M", ("A", "A"), (), ()),
                      ("M", ("a",), (), ()), ("M", ("A.B",), (), ()), ("M", ["A"], (), ()), ("M", (), [], ()),
                      ("M", (), (), []), ("M", (), ()), ("M", (), (), (), ()), ["M", (), (), ()], ("M", (None,), (), ()),
                      items(("let", "X", X)), items(("let", "A.x", X)), items(("let", "x")), items(("let", "in", X)),
                      items(("let", "x", ("let", "A.y", X, X))), items(("let", "x", ("rec", (("A.f", FN),), X))),
                      items(("let", "x", ("new", ("tuple", (X, ("let", "A.y", X, X)))))), items(("let", "x", None)),
                      items(("rec", ())), items(("rec", (("f", X),))), items(("rec", (("f", FN), ("f", FN)))),
                      items(("rec", (("A.f", FN),))), items(("rec", (("f", ("fn", "x", ("let", "A.y", X, X))),))),
                      items(("rec", (("f", FN),), X)), items(("kind", ("A.T", 0, (("A", None),)))),
                      items(("kind", ("T", 0, (("A.A", None),)))), items(("kind", ("T", 0, ()))),
                      items(("kind", ("T", 0, (("A", ("var", 0)),)))), items(("kind", ("T", 1, (("A", ("var", 1)),)))),
                      items(("kind", ("T", 1, (("A", ("record", (), ("var", 0))),)))), items(("kind", ("t", 0, (("A", None),)))),
                      items(("kind", "T", 0, (("A", None),))), items(("kind", ("T", True, (("A", None),)))),
                      items(("value", "x")), items(None), items(("let", "x", X), ()),
                      ("M", (), (), (("value", "x"), ("value", "x"))), ("M", (), (), (("open", "X"), ("open", "X"))),
                      ("M", (), (), (("value", "X"),)), ("M", (), (), (("kind", "x"),)), ("M", (), (), (("open", "A.X"),)),
                      ("M", (), (), (("maker", "X"),)), ("M", (), (), ("x",)), ("M", (), (), (("value", "x", None),))]:
            self.assertIs(is_module(thing), False, thing)

    def test_random_ones(self):
        chance = random.Random(1)
        for _ in range(200):
            self.assertIs(is_module(random_module(chance, "M")), True)


class WhatModulesHaveTest(unittest.TestCase):
    MODULE = read_modules(
        "module M use N "
        "kind T ?0 = B | A (?0, N.K, U, T N.K) kind U = Z num kind Hid = Y "
        "let q = N.b (fn x -> match x with | N.P (N.Q, B) -> N.R N.a | {a = N.O z} -> z.a end) "
        "rec c = fn x -> N.c x and a = fn y -> N.b N.b let zz = 1 "
        "give zz, q, nothing, kind U, kind T *, kind Nothing, kind None *")[0]

    def test_lists(self):
        self.assertEqual(modules.values_of(self.MODULE), ("a", "c", "q", "zz"))
        self.assertEqual(modules.module_kinds(self.MODULE), ("Hid", "T", "U"))
        self.assertEqual(modules.makers_in(self.MODULE), ("A", "B", "Y", "Z"))
        self.assertEqual(modules.given_values(self.MODULE), ("q", "zz"))
        self.assertEqual(modules.given_kinds(self.MODULE), ("T", "U"))
        self.assertEqual(modules.given_makers(self.MODULE), ("A", "B"))
        self.assertEqual(modules.outer_names(self.MODULE),
                         ("N.K", "N.O", "N.P", "N.Q", "N.R", "N.a", "N.b", "N.c"))

    def test_nothing(self):
        for told in (modules.values_of, modules.module_kinds, modules.makers_in, modules.given_values,
                     modules.given_kinds, modules.given_makers, modules.outer_names):
            self.assertEqual(told(("M", ("A",), (), (("value", "x"), ("open", "T")))), ())

    def test_what_stands_twice_is_told_once(self):
        module = read_modules("module M let x = N.a let x = N.a kind T = A | A kind T = A kind U = B (N.K N.K) "
                              "give x, kind T, kind T *")[0]
        self.assertEqual(modules.values_of(module), ("x",))
        self.assertEqual(modules.module_kinds(module), ("T", "U"))
        self.assertEqual(modules.makers_in(module), ("A", "B"))
        self.assertEqual(modules.given_kinds(module), ("T",))
        self.assertEqual(modules.given_makers(module), ("A",))
        self.assertEqual(modules.outer_names(module), ("N.K", "N.a"))

    def test_kinds_and_values_are_apart(self):
        module = read_modules("module M kind T = T let t = 1 give kind T")[0]
        self.assertEqual(modules.given_kinds(module), ("T",))
        self.assertEqual(modules.given_makers(module), ())
        self.assertEqual(modules.given_values(module), ())


class ModuleTextsTest(unittest.TestCase):
    def fails_at(self, *texts):
        """The first word that is bad stands behind a ! in each text, or the ! at the end."""
        for text in texts:
            self.assertEqual(text.count("!"), 1, text)
            rows = text[:text.index("!")].split("\n")
            with self.assertRaises(NoText, msg=text) as caught:
                read_modules(text.replace("!", ""))
            self.assertEqual((caught.exception.line, caught.exception.column), (len(rows) - 1, len(rows[-1])), text)

    def test_all_items(self):
        text = ("module M\nuse A, B\nkind T ?0 ?1 = X | Y (?0 -> ?1) | Z {a: num}\nlet x = fn y -> A.y\n"
                "rec f = fn x -> g x and g = fn y -> f y\nlet main = let z = 1 in z\ngive x, kind T *, f, kind T\n"
                "module N\nmodule O\nuse M\nmodule P\ngive x\nmodule Q\nlet x = 1")
        told = read_modules(text)
        self.assertEqual([module[0] for module in told], ["M", "N", "O", "P", "Q"])
        self.assertEqual(told[0][1], ("A", "B"))
        self.assertEqual(told[0][2], (
            ("kind", ("T", 2, (("X", None), ("Y", ("to", ("var", 0), ("var", 1))), ("Z", ("record", (("a", NUM),), None))))),
            ("let", "x", ("fn", "y", ("name", "A.y"))),
            ("rec", (("f", ("fn", "x", ("call", ("name", "g"), X))), ("g", ("fn", "y", ("call", ("name", "f"), ("name", "y")))))),
            ("let", "main", ("let", "z", ("num", 1), ("name", "z")))))
        self.assertEqual(told[0][3], (("value", "x"), ("open", "T"), ("value", "f"), ("kind", "T")))
        self.assertEqual(told[1:], (("N", (), (), ()), ("O", ("M",), (), ()), ("P", (), (), (("value", "x"),)),
                                    ("Q", (), (("let", "x", ("num", 1)),), ())))
        self.assertEqual(show_modules(told), text)
        self.assertEqual(show_modules(told[1:2]), "module N")

    def test_other_blanks(self):
        self.assertEqual(read_modules("module M#\nlet x=1let y=2rec f=fn x->x kind T=A|B(num)give x,kind T*,kind T"),
                         read_modules("module M let x = 1 let y = 2 rec f = fn x -> x kind T = A | B num give x, kind T *, kind T"))

    def test_random_modules(self):
        chance = random.Random(9)
        for _ in range(250):
            several = tuple(random_module(chance, chance.choice("MNOP")) for _ in range(chance.choice([1, 2, 3])))
            before = frozen(several)
            text = show_modules(several)
            self.assertEqual(frozen(read_modules(text)), before)
            self.assertEqual(frozen(read_modules(spread(text, chance))), before)
            self.assertEqual(frozen(several), before)
            lines = sum(1 + bool(uses) + len(items) + bool(gives) for _, uses, items, gives in several)
            self.assertEqual(len(text.split("\n")), lines)

    def test_bad_words_of_heads(self):
        self.fails_at("!let x = 1", "!give x", "!use A", "!1", "!", "module!", "module !m", "module !M.N", "module !let",
                      "module M !use_", "module M !1", "module M !in", "module M !)", "module M !M", "module M !x",
                      "module M use!", "module M use !a", "module M use !A.B", "module M use !M", "module M use A, !A",
                      "module M use A, !M", "module M use A, B, !A", "module M use A !B", "module M use A,!",
                      "module M use A, !let", "module M use A !use B", "module M use A !.",
                      "module M let x = 1 !use A", "module M\nmodule N use A,\n !N", "module M give x !use A")

    def test_bad_words_of_items(self):
        self.fails_at("module M let !X", "module M let !A.x", "module M let x !1", "module M let x = !in",
                      "module M let x = 1 !in x", "module M let x = 1 !and", "module M let x = let y = 1 !let",
                      "module M let x = let !A.y = 1 in 1", "module M let x = rec !A.f = fn x -> x in 1", "module M let x =!",
                      "module M let x = fn y -> rec f = fn x -> x and !A.g", "module M let x = 1 !)", "module M let x = (1!",
                      "module M rec !A.f", "module M rec f = !x", "module M rec f = fn x -> x and !f",
                      "module M rec f = fn x -> x !in f", "module M rec f = fn x -> x and g = !(fn y -> y)",
                      "module M rec f = fn x -> let y = x !rec", "module M rec f = fn x -> x and!", "module M rec !F",
                      "module M let x = f !->", "module M let x = {b = 1, !a = 2}", "module M let x = match y with | (z, !z)")

    def test_bad_words_of_kinds(self):
        self.fails_at("module M kind !t = A", "module M kind !A.T", "module M kind T = !A.B", "module M kind T = !a",
                      "module M kind T !?1", "module M kind T ?0 !?0", "module M kind T ?0 ?1 !?3", "module M kind T !A",
                      "module M kind T = A !?0", "module M kind T = A (num, !?0)", "module M kind T ?0 = A (?0 -> !?1)",
                      "module M kind T ?0 = A {a: num !| ?0}", "module M kind T ?0 = A {!| ?0}", "module M kind T ?0 = A {!|",
                      "module M kind T ?0 = A (L {a: {!| ?1}})", "module M kind T ?0 ?1 = A ?1 | B !?2",
                      "module M kind T ?0 = A kind U = B !?0", "module M kind T ?0 = A | B num !num", "module M kind T =!",
                      "module M kind T = A |!", "module M kind T = A | !let", "module M kind T = A !cell num",
                      "module M kind T = A num !->", "module M kind T = A {b: num, !a: num}", "module M kind T = A !in")
        self.assertEqual(read_modules("module M kind T ?0 = A (L ?0 M.L) kind U ?0 ?1 ?2 = B ?2")[0][2][1][1][1], 3)

    def test_bad_words_of_gives(self):
        self.fails_at("module M give!", "module M give !X", "module M give !A.x", "module M give !let", "module M give x !y",
                      "module M give x, !x", "module M give x,!", "module M give x, y, !x", "module M give kind!",
                      "module M give kind !x", "module M give kind !A.X", "module M give kind X !x", "module M give kind X !kind",
                      "module M give x !give y", "module M give x !let y = 1", "module M give x !*", "module M give kind X * !*",
                      "module M give x !)", "module M give\n!module N", "module M give !*")

    def test_kinds_given_twice(self):
        self.assertEqual(read_modules("module M give kind X, kind X *")[0][3], (("kind", "X"), ("open", "X")))
        self.assertEqual(read_modules("module M give kind X *, kind X")[0][3], (("open", "X"), ("kind", "X")))
        self.assertEqual(read_modules("module M give kind X *, kind X, x module N give kind X, kind X *, x")[0][3],
                         (("open", "X"), ("kind", "X"), ("value", "x")))
        self.fails_at("module M give kind X, kind X!", "module M give kind X, kind X !, y", "module M give kind X, kind X\n  !module N",
                      "module M give kind X, kind X !)", "module M give kind X *, kind X !*", "module M give kind X *, kind X !* , y",
                      "module M give kind X, kind X *, kind !X", "module M give kind X *, kind X, kind !X *",
                      "module M give kind X, y, kind X !kind")

    def test_kinds_that_would_be_too_great(self):
        head = "module M kind T = A "
        for begin, more, end, most in [("(num", ", num", ")", 1998), ("(A", " num", ")", 1999)]:
            self.assertTrue(is_module(read_modules(head + begin + more * most + end)[0]), more)
            self.fails_at(head + begin + more * most + " !" + more[1 if more[0] == " " else 0:] + end)
        arrows = head + "(num -> num" + ", num -> num" * 665 + ", num"
        self.assertTrue(is_module(read_modules(arrows + ")")[0]))
        self.fails_at(arrows + " !-> num)", arrows + "!, num)")
        fields = ", ".join(f"l{at:04d}: num" for at in range(1999))
        self.assertTrue(is_module(read_modules(head + "{" + fields + "}")[0]))
        self.fails_at(head + "{" + fields + " !, m: num}")
        cell = "(num" + ", num" * 1997 + ", "
        self.assertTrue(is_module(read_modules(head + cell + "num)")[0]))
        self.fails_at(head + cell + "!cell num)")
        self.assertTrue(is_module(read_modules(head + cell.replace("num, ", "", 1) + "cell num)")[0]))

    def test_wrong(self):
        for value in any_values():
            if not isinstance(value, str):
                with self.assertRaises(Wrong) as caught:
                    read_modules(value)
                self.assertEqual(caught.exception.place, 0)

    def test_names_of_modules_may_come_twice(self):
        self.assertEqual(len(read_modules("module M module M")), 2)


if __name__ == "__main__":
    unittest.main()
