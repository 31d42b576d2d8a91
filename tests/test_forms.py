"""[2], [12]: what things are."""

import copy
import random
import unittest

from kindsworn import forms, modules
from kindsworn.moduletexts import read_modules
from kindsworn.reader import read_kind, read_pattern, read_program, read_term
from tests import oracle
from tests.anything import any_values, frozen, spoilt

NUM, TRUTH = ("num",), ("truth",)
ASKED = [
    forms.is_integer, forms.is_number, forms.is_small, forms.is_great, forms.is_name, forms.is_label, forms.is_maker,
    forms.is_kind, forms.is_scheme, forms.is_declarations, forms.is_pattern, forms.is_term, forms.is_program,
    forms.is_place, forms.is_lot,
]
LIST = ("List", 1, (("Nil", None), ("Cons", ("tuple", (("var", 0), ("of", "List", (("var", 0),)))))))
OPTION = ("Option", 1, (("None", None), ("Some", ("var", 0))))


def var(index):
    return ("var", index)


def record(rest, *labels):
    return ("record", tuple((label, NUM) for label in labels), rest)


class AnyValueTest(unittest.TestCase):
    def test_each_answers_true_or_false(self):
        for ask in ASKED:
            for value in any_values():
                before = frozen(value)
                self.assertIsInstance(ask(value), bool, (ask.__name__, before[:80]))
                self.assertEqual(frozen(value), before)

    def test_answers_do_not_hang_on_what_was_asked_before(self):
        for ask in ASKED:
            told = [ask(value) for value in any_values()]
            self.assertEqual([ask(copy.deepcopy(value)) for value in any_values()], told)

    def test_right_things_with_one_place_otherwise(self):
        kinds = ["num -> truth", "(num, ?0) -> {a: cell num, b: ?0 | ?1}", "List (Option ?1) () {| ?0} {}",
                 "{a: ?2 | ?0} -> {a: num | ?0}"]
        patterns = ["Cons (x, {a = _, b = y})", "(1, true, ~5)", "A.B None", "()"]
        terms = ["rec f = fn x -> f (x + 1) and g = fn y -> M.f 2 in {a = f, b = Some g.a}", "None",
                 "let M.x = (1, true) in match new x with | Some (x, y) -> put x (get y) | {a = _} -> tell 2 end",
                 "if x < 1 then () else fn x -> M.None"]
        program = read_program("kind List ?0 = Nil | Cons (?0, List ?0) kind W = W (List W) "
                               "give match Cons (1, Nil) with | Nil -> Nil | Cons (_, W x) -> x end")
        schemes = [(0, NUM), (2, ("to", var(0), ("record", (("a", var(0)),), var(1))))]
        right = [(forms.is_kind, oracle.kind, [read_kind(text) for text in kinds]),
                 (forms.is_scheme, oracle.scheme, schemes),
                 (forms.is_pattern, oracle.pattern, [read_pattern(text) for text in patterns]),
                 (forms.is_term, oracle.term, [read_term(text) for text in terms]),
                 (forms.is_declarations, oracle.declarations, [program[0], ()]),
                 (forms.is_program, oracle.program, [program])]
        for ask, told, things in right:
            for thing in things:
                self.assertIs(ask(thing), True, thing)
                wrong = 0
                for other in spoilt(thing):
                    answer = ask(other)
                    self.assertIs(answer, oracle.holds(told)(other), other)
                    wrong += not answer
                self.assertGreater(wrong, 40)

    def test_lists_are_never_tuples(self):
        for ask, thing in [(forms.is_kind, ["num"]), (forms.is_kind, ("tuple", [])), (forms.is_term, ["num", 1]),
                           (forms.is_kind, ("record", [], None)), (forms.is_scheme, [0, NUM]),
                           (forms.is_declarations, []), (forms.is_pattern, ("tuple", [])), (forms.is_place, []),
                           (forms.is_place, [0]), (forms.is_lot, []), (forms.is_lot, ([],)),
                           (forms.is_program, [(), ("num", 1)]), (forms.is_term, ("match", ("num", 1), [])),
                           (forms.is_declarations, (["T", 0, (("A", None),)],)),
                           (forms.is_declarations, (("T", 0, [("A", None)]),))]:
            self.assertIs(ask(thing), False, thing)

    def test_truths_are_never_numbers(self):
        for ask, thing in [(forms.is_integer, True), (forms.is_number, False), (forms.is_kind, var(False)),
                           (forms.is_kind, ("record", (), var(True))), (forms.is_scheme, (False, NUM)),
                           (forms.is_scheme, (True, var(0))), (forms.is_term, ("num", True)),
                           (forms.is_term, ("truth", 1)), (forms.is_pattern, ("num", False)),
                           (forms.is_pattern, ("truth", 0)), (forms.is_place, (True,)), (forms.is_lot, ((False,),)),
                           (forms.is_declarations, (("T", False, (("A", None),)),))]:
            self.assertIs(ask(thing), False, thing)


class NamesTest(unittest.TestCase):
    def test_integers_and_numbers(self):
        for value in (0, 5, -(10 ** 39), 10 ** 39):
            self.assertTrue(forms.is_integer(value))
        for value in (True, None, "1", (1,), 1.0):
            self.assertFalse(forms.is_integer(value))
        for value in (-2147483648, -1, 0, 2147483647):
            self.assertTrue(forms.is_number(value))
        for value in (-2147483649, 2147483648, 10 ** 39, False, None, 1.0):
            self.assertFalse(forms.is_number(value))

    def test_wrapped(self):
        for number, told in [(0, 0), (2147483647, 2147483647), (2147483648, -2147483648), (-2147483648, -2147483648),
                             (-2147483649, 2147483647), (4294967296, 0), (-4294967297, -1), (10 ** 39 + 5, 5),
                             (6442450943, 2147483647), (6442450944, -2147483648)]:
            expected = told if number != 10 ** 39 + 5 else (number + 2 ** 31) % 2 ** 32 - 2 ** 31
            self.assertEqual(forms.wrapped(number), expected)
        for number in [10 ** 39, -(10 ** 39), 3 ** 80, -(7 ** 40)]:
            told = forms.wrapped(number)
            self.assertTrue(forms.is_number(told))
            self.assertEqual((number - told) % 4294967296, 0)

    def test_small_and_great(self):
        for name in ("a", "z", "aZ09_", "x" * 20, "modules", "truth", "num", "cell", "lets", "iN"):
            self.assertTrue(forms.is_small(name) and forms.is_label(name) and forms.is_name(name), name)
            self.assertFalse(forms.is_great(name) or forms.is_maker(name), name)
        for name in ("A", "Z", "Az09_", "X" * 20, "Module", "Let"):
            self.assertTrue(forms.is_great(name) and forms.is_maker(name), name)
            self.assertFalse(forms.is_small(name) or forms.is_name(name) or forms.is_label(name), name)
        for name in ("", "_", "_x", "1", "1x", "x" * 21, "X" * 21, "x y", "x\n", "\nx", "x-", "x.", ".x", "\u00e9",
                     "x\u00e9", "X\u0660", "x ", " x", "X\n", "?0"):
            for ask in (forms.is_small, forms.is_great, forms.is_name, forms.is_label, forms.is_maker):
                self.assertFalse(ask(name), name)

    def test_barred_words(self):
        self.assertEqual(len(oracle.BARRED), 21)
        for word in oracle.BARRED:
            self.assertFalse(forms.is_small(word) or forms.is_label(word) or forms.is_name(word), word)
            self.assertFalse(forms.is_name("M." + word), word)
            self.assertTrue(forms.is_small(word + "_") and forms.is_name("M." + word + "_"))

    def test_points(self):
        for name in ("List.map", "M." + "x" * 20, "M" * 20 + ".x"):
            self.assertTrue(forms.is_name(name))
            self.assertFalse(forms.is_maker(name) or forms.is_small(name) or forms.is_label(name))
        for name in ("List.Cons", "M." + "X" * 20, "M" * 20 + ".X"):
            self.assertTrue(forms.is_maker(name))
            self.assertFalse(forms.is_name(name) or forms.is_great(name))
        for name in ("M." + "x" * 21, "M" * 21 + ".x", "m.x", "m.X", "M..x", "M.x.y", "M.N.x", "M.X.Y", "M.", ".x",
                     ".X", ".", "M.x\n", "M.X\n", "M .x", "M. X", "M.1", "M._"):
            self.assertFalse(forms.is_name(name) or forms.is_maker(name), name)

    def test_places_and_lots(self):
        for place in ((), (0,), (3, 0, 10 ** 39)):
            self.assertTrue(forms.is_place(place))
        for place in ((-1,), (True,), ("0",), ((0,),), None, 0, (0, None)):
            self.assertFalse(forms.is_place(place))
        for lot in ((), ((),), ((), (0,), (0, 0), (1,)), ((2,), (10,))):
            self.assertTrue(forms.is_lot(lot))
        for lot in (((), ()), ((0,), ()), ((1,), (0, 5)), (0,), (None,), ((0,), (True,)), ((), [0])):
            self.assertFalse(forms.is_lot(lot))


class KindsTest(unittest.TestCase):
    def test_kinds(self):
        for kind in (NUM, TRUTH, ("to", NUM, TRUTH), ("tuple", ()), ("tuple", (NUM, NUM)), record(None),
                     record(None, "a", "b"), record(var(3), "a"), ("cell", NUM), ("of", "List", (NUM, NUM)),
                     ("of", "List.List", ()), var(0), var(10 ** 39)):
            self.assertTrue(forms.is_kind(kind), kind)
        for kind in (("num", 1), ("to", NUM), ("tuple", (NUM,)), ("cell",), ("of", "list", ()), ("of", "A.b", ()),
                     ("of", "List"), var(-1), var("0"), ("var",), ("record", ()), record(NUM, "a"), record(0),
                     ("any",), (), ("of", "A", NUM), ("tuple", NUM), ("Num",)):
            self.assertFalse(forms.is_kind(kind), kind)

    def test_labels(self):
        self.assertTrue(forms.is_kind(record(None, "a", "aa", "b")))
        for labels in (("b", "a"), ("a", "a"), ("A",), ("let",), ("a.b",), ("x" * 21,), ("a", "B")):
            self.assertFalse(forms.is_kind(record(None, *labels)), labels)

    def test_parts(self):
        self.assertTrue(forms.is_kind(("tuple", (NUM,) * 1999)))
        self.assertFalse(forms.is_kind(("tuple", (NUM,) * 2000)))
        fields = tuple((f"l{at:04d}", NUM) for at in range(2000))
        self.assertTrue(forms.is_kind(("record", fields[:1999], var(0))))
        self.assertFalse(forms.is_kind(("record", fields, None)))
        self.assertTrue(forms.is_kind(("to", ("tuple", (NUM,) * 998), ("of", "A", (NUM,) * 999))))
        self.assertFalse(forms.is_kind(("to", ("tuple", (NUM,) * 998), ("of", "A", (NUM,) * 1000))))
        shared = NUM
        for _ in range(60):
            shared = ("to", shared, shared)
        self.assertFalse(forms.is_kind(shared))

    def test_depth(self):
        kind = NUM
        for _ in range(99):
            kind = ("cell", kind)
        self.assertTrue(forms.is_kind(kind))
        self.assertFalse(forms.is_kind(("cell", kind)))

    def test_rests(self):
        for parts in ((record(var(0)), record(var(0))), (record(var(0), "a"), record(var(1)), var(2)),
                      (record(var(0), "a", "b"), NUM, ("cell", record(var(0), "a", "b")))):
            self.assertTrue(forms.is_kind(("tuple", parts)), parts)
        for parts in ((record(var(0)), var(0)), (var(0), record(var(0))), (record(var(0), "a"), record(var(0))),
                      (record(var(0), "a"), record(var(0), "b")), (record(var(1), "a", "b"), record(var(1), "a"))):
            self.assertFalse(forms.is_kind(("tuple", parts)), parts)
        self.assertFalse(forms.is_kind(("record", (("a", var(0)),), var(0))))
        self.assertFalse(forms.is_kind(("record", (("a", record(var(0))),), var(0))))

    def test_schemes(self):
        for scheme in ((0, NUM), (1, var(0)), (2, ("to", var(0), ("to", var(1), var(0)))),
                       (2, ("record", (("a", var(0)),), var(1))), (1, record(var(0)))):
            self.assertTrue(forms.is_scheme(scheme), scheme)
        for scheme in ((1, NUM), (0, var(0)), (1, var(1)), (2, ("to", var(1), var(0))), (3, ("to", var(0), var(1))),
                       (2, ("record", (("a", var(1)),), var(0))), (-1, NUM), (2, ("to", var(0), var(2))), (0, None),
                       (0, NUM, NUM), (10 ** 39, var(0)), ("0", NUM), (None, NUM), (1, ("tuple", (var(0),)))):
            self.assertFalse(forms.is_scheme(scheme), scheme)


class DeclarationsTest(unittest.TestCase):
    def test_right_ones(self):
        for rows in ((), (LIST,), (OPTION, LIST), (("T", 0, (("T", None),)),), (("M.T", 2, (("M.A", NUM),)),),
                     (("T", 10 ** 39, (("A", None),)),), (("A", 1, (("A", ("cell", var(0))),)),)):
            self.assertTrue(forms.is_declarations(rows), rows)

    def test_wrong_ones(self):
        for rows in ((("T", 0, ()),), (("T", -1, (("A", None),)),), (("t", 0, (("A", None),)),), (("T", 0),),
                     (("T", 0, (("a", None),)),), (("T", 0, (("A",),)),), (("T", 0, (("A", NUM, NUM),)),),
                     (("T", 0, (("A", var(0)),)),), (("T", 1, (("A", var(1)),)),),
                     (("T", 1, (("A", record(var(0))),)),), (("T", 2, (("A", record(var(1), "a")),)),),
                     (("T", 0, (("A", ("num", 1)),)),), LIST, (LIST, None)):
            self.assertFalse(forms.is_declarations(rows), rows)

    def test_names_twice(self):
        one = ("A", 0, (("X", None),))
        self.assertFalse(forms.is_declarations((one, ("A", 0, (("Y", None),)))))
        self.assertFalse(forms.is_declarations((one, ("B", 0, (("X", None),)))))
        self.assertFalse(forms.is_declarations((("A", 0, (("X", None), ("X", NUM))),)))
        self.assertTrue(forms.is_declarations((one, ("X", 0, (("A", None),)))))

    def test_kind_names_that_stand_in_them(self):
        self.assertFalse(forms.is_declarations((("A", 0, (("X", ("of", "B", ())),)),)))
        self.assertTrue(forms.is_declarations((("A", 0, (("X", ("of", "B", ())),)), ("B", 0, (("Y", None),)))))
        for many in (0, 2):
            kind = ("to", NUM, ("of", "Option", (NUM,) * many))
            self.assertFalse(forms.is_declarations((OPTION, ("A", 0, (("X", kind),)))))
        self.assertTrue(forms.is_declarations((OPTION, ("A", 0, (("X", ("to", NUM, ("of", "Option", (NUM,)))),)))))

    def test_values(self):
        a, b = ("of", "A", ()), ("of", "B", ())
        for kind in (a, ("tuple", (NUM, a)), ("record", (("l", a),), None), ("cell", a), ("cell", ("cell", a))):
            self.assertFalse(forms.is_declarations((("A", 0, (("X", kind),)),)), kind)
            self.assertTrue(forms.is_declarations((("A", 0, (("X", kind), ("Y", None))),)), kind)
            self.assertTrue(forms.is_declarations((("A", 0, (("X", ("to", a, kind)),)),)), kind)
        self.assertFalse(forms.is_declarations((("A", 0, (("X", b),)), ("B", 0, (("Y", a),)))))
        self.assertFalse(forms.is_declarations((("A", 0, (("X", b),)), ("B", 0, (("Y", b),)))))
        self.assertTrue(forms.is_declarations((("A", 0, (("X", b),)), ("B", 0, (("Y", NUM),)))))
        self.assertTrue(forms.is_declarations((("A", 0, (("X", ("of", "Option", (a,))),)), OPTION)))
        keeps = ("Keep", 1, (("Kept", ("tuple", (var(0), var(0)))),))
        self.assertFalse(forms.is_declarations((("A", 0, (("X", ("of", "Keep", (a,))),)), keeps)))
        drops = ("Drop", 2, (("Left", var(0)), ("Both", ("tuple", (var(0), var(1))))))
        self.assertTrue(forms.is_declarations((("A", 0, (("X", ("of", "Drop", (NUM, a))),)), drops)))
        self.assertFalse(forms.is_declarations((("A", 0, (("X", ("of", "Drop", (a, NUM))),)), drops)))
        grows = ("T", 1, (("G", ("of", "T", (("cell", var(0)),))),))
        self.assertFalse(forms.is_declarations((grows,)))
        self.assertTrue(forms.is_declarations((("T", 1, grows[2] + (("E", var(0)),)),)))

    def test_values_of_random_ones(self):
        chance = random.Random(3)
        answers = []
        for _ in range(1500):
            takes = [chance.randrange(3) for _ in range(3)]

            def kind(many, room):
                way = chance.randrange(7 if room else 3)
                if way < 2 or (way == 2 and many == 0):
                    index = chance.randrange(3)
                    return ("of", "ABC"[index], tuple(kind(many, 0) if room else NUM for _ in range(takes[index])))
                if way == 2:
                    return var(chance.randrange(many))
                if way == 3:
                    return ("to", kind(many, room - 1), NUM)
                if way == 4:
                    return ("cell", kind(many, room - 1))
                return ("tuple", (kind(many, room - 1), kind(many, room - 1)))

            rows = []
            for index in range(3):
                makers = tuple((f"{'ABC'[index]}{at}", None if chance.randrange(6) == 0 else kind(takes[index], 2))
                               for at in range(chance.choice([1, 1, 2])))
                rows.append(("ABC"[index], takes[index], makers))
            told = forms.is_declarations(tuple(rows))
            self.assertEqual(told, oracle.holds(oracle.declarations)(tuple(rows)), rows)
            answers.append(told)
        self.assertGreater(answers.count(True), 200)
        self.assertGreater(answers.count(False), 200)


class TermsTest(unittest.TestCase):
    def test_patterns(self):
        x, y = ("bind", "x"), ("bind", "y")
        for pattern in (("any",), x, ("num", -2147483648), ("truth", False), ("tuple", ()), ("tuple", (x, y)),
                        ("record", (("a", x), ("b", y))), ("make", "A", None), ("make", "M.A", ("tuple", (x, y)))):
            self.assertTrue(forms.is_pattern(pattern), pattern)
        for pattern in (("any", 1), ("bind", "X"), ("bind", "let"), ("bind", "M.x"), ("num", 2147483648),
                        ("truth", None), ("tuple", (x,)), ("record", ()), ("record", (("b", x), ("a", y))),
                        ("record", (("a", x), ("a", y))), ("make", "a", None), ("make", "A"), ("make", "A.b", x),
                        ("tuple", (x, x)), ("record", (("a", x), ("b", x))), ("name", "x"),
                        ("tuple", (("make", "A", x), ("tuple", (y, ("make", "B", x)))))):
            self.assertFalse(forms.is_pattern(pattern), pattern)

    def test_terms(self):
        x, fn = ("name", "x"), ("fn", "x", ("name", "x"))
        for term in (("num", 2147483647), ("truth", True), x, ("name", "M.x"), fn, ("call", x, x),
                     ("let", "M.x", x, x), ("rec", (("f", fn), ("M.f", fn)), x), ("if", x, x, x), ("tuple", ()),
                     ("tuple", (x, x, x)), ("record", (("a", x),)), ("field", x, "a"), ("make", "M.A", None),
                     ("make", "A", x), ("match", x, ((("bind", "x"), x), (("bind", "x"), x))), ("new", x),
                     ("get", x), ("put", x, x), ("tell", x)) + tuple(("op", sign, x, x) for sign in "+-*<="):
            self.assertTrue(forms.is_term(term), term)
        for term in (("num", -2147483649), ("truth", 0), ("name", "X"), ("name", "M.X"), ("fn", "M.x", x), ("fn", "x"),
                     ("let", "X", x, x), ("rec", (), x), ("rec", (("f", x),), x), ("rec", (("f", fn), ("f", fn)), x),
                     ("rec", (("F", fn),), x), ("rec", (("f", ("fn", "x", None)),), x), ("tuple", (x,)),
                     ("record", ()), ("record", (("b", x), ("a", x))), ("record", (("a", x), ("a", x))),
                     ("field", x, "A"), ("make", "a", None), ("match", x, ()), ("match", x, ((x, x),)),
                     ("match", x, ((("tuple", (("bind", "y"), ("bind", "y"))), x),)), ("op", "/", x, x),
                     ("op", "+-", x, x), ("op", "", x, x), ("op", ("+",), x, x), ("put", x), ("new", x, x), ("any",)):
            self.assertFalse(forms.is_term(term), term)

    def test_free_names_make_no_program(self):
        for text, told in [("fn x -> x", True), ("fn x -> y", False), ("let x = x in x", False),
                           ("let x = 1 in let x = x in x", True), ("rec f = fn x -> f x in f", True),
                           ("rec f = fn x -> g and g = fn y -> f in g", True), ("let f = fn x -> f x in f", False),
                           ("match 1 with | x -> x | _ -> 1 end", True), ("match 1 with | x -> 1 | _ -> x end", False),
                           ("match x with | x -> x end", False), ("(fn x -> x) x", False), ("let M.x = 1 in M.x", True),
                           ("let M.x = 1 in x", False), ("(fn x -> fn x -> x) 1", True)]:
            self.assertIs(forms.is_program(((), read_term(text))), told, text)

    def test_makers_make_no_program(self):
        for text, told in [("Nil", True), ("Cons (1, Nil)", True), ("Nil 1", False), ("Cons", False), ("None", False),
                           ("Some 1", False), ("fn x -> match x with | Cons (_, Nil) -> 1 | Nil -> 2 end", True),
                           ("fn x -> match x with | Cons (_, Nil y) -> 1 end", False),
                           ("fn x -> match x with | Cons -> 1 end", False), ("fn x -> {a = (1, Cons)}", False),
                           ("fn x -> match x with | {a = Cons} -> 1 end", False), ("M.Nil", False),
                           ("fn x -> match x with | Other y -> y end", False)]:
            self.assertIs(forms.is_program(((LIST,), read_term(text))), told, text)

    def test_programs(self):
        self.assertFalse(forms.is_program(((LIST, LIST), ("num", 1))))
        self.assertFalse(forms.is_program(((LIST,), ("num", 1), None)))
        self.assertFalse(forms.is_program((None, ("num", 1))))
        self.assertFalse(forms.is_program(((), None)))


class ModulesAsThingsTest(unittest.TestCase):
    def test_is_module_agrees_with_what_is_told_once_more(self):
        text = ("module A use B, C kind L ?0 = N | C (?0, L ?0, M.L) rec f = fn x -> let y = x in M.y "
                "and g = fn z -> C z let x = rec h = fn u -> u in match h with | M.P (a, {b = c}) -> a end "
                "give x, kind L *, kind L, g")
        for thing in read_modules(text + " module D"):
            self.assertIs(modules.is_module(thing), True)
            for other in spoilt(thing):
                self.assertIs(modules.is_module(other), oracle.holds(oracle.module)(other), other)
        for value in any_values():
            self.assertIs(modules.is_module(value), False)


if __name__ == "__main__":
    unittest.main()
