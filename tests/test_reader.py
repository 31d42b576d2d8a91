"""[16], [17], [18]: what is read."""

import unittest

from kindsworn.errors import NotKind, NotProgram, NoText, Wrong
from kindsworn.forms import BARRED, is_kind, is_pattern, is_program, is_term
from kindsworn.moduletexts import read_modules
from kindsworn.reader import read_kind, read_pattern, read_program, read_term
from tests.anything import any_values, frozen
from tests.grammar import trials

NUM, TRUTH = ("num",), ("truth",)
READERS = {"kind": read_kind, "pattern": read_pattern, "term": read_term, "program": read_program,
           "modules": read_modules}


def var(index):
    return ("var", index)


def name(word):
    return ("name", word)


def op(sign, one, other):
    return ("op", sign, one, other)


A, B, C, D, F, X = [name(word) for word in "abcdfx"]


class ReaderTest(unittest.TestCase):
    def fails(self, read, text, line, column):
        with self.assertRaises(NoText, msg=text) as caught:
            read(text)
        self.assertEqual((caught.exception.line, caught.exception.column), (line, column), text)

    def fails_at(self, read, *texts):
        """The first word that is bad stands behind a ! in each text, or the ! at the end."""
        for text in texts:
            self.assertEqual(text.count("!"), 1)
            ahead = text[:text.index("!")]
            rows = ahead.split("\n")
            self.fails(read, text.replace("!", ""), len(rows) - 1, len(rows[-1]))


class AllReadersTest(ReaderTest):
    def test_wrong(self):
        for read in READERS.values():
            for value in any_values():
                if not isinstance(value, str):
                    before = frozen(value)
                    with self.assertRaises(Wrong) as caught:
                        read(value)
                    self.assertEqual(caught.exception.place, 0)
                    self.assertEqual(frozen(value), before)

    def test_any_string(self):
        for read in READERS.values():
            for value in any_values():
                if isinstance(value, str):
                    try:
                        read(value)
                    except (NoText, NotKind, NotProgram) as error:
                        self.assertIs(type(getattr(error, "line", 0)), int)

    def test_words_come_ahead_of_all(self):
        for sort, read in READERS.items():
            self.fails(read, ") in in\n ~0", 1, 1)
            self.fails(read, "( = A.let", 0, 6)
            self.fails(read, "!", 0, 0)
            self.fails(read, ") x" + "x" * 20, 0, 2)

    def test_nothing_at_all(self):
        for read in READERS.values():
            self.fails(read, "", 0, 0)
            self.fails(read, "  ", 0, 2)
            self.fails(read, "\n # a remark\n ", 2, 1)
            self.fails(read, "# a remark", 0, 10)

    def test_the_first_bad_word_by_the_plain_rules(self):
        for sort, read in READERS.items():
            goods = 0
            for text, place in trials(sort, 700, 1, 12):
                try:
                    read(text)
                    told = None
                except (NotKind, NotProgram):
                    told = None
                except NoText as error:
                    told = (error.line, error.column)
                self.assertEqual(told, place, text)
                goods += place is None
            self.assertTrue(150 < goods < 600, goods)


class KindReaderTest(ReaderTest):
    def test_all_forms(self):
        for text, kind in [
                ("num", NUM), ("truth", TRUTH), ("num -> truth", ("to", NUM, TRUTH)), ("()", ("tuple", ())),
                ("(num, truth)", ("tuple", (NUM, TRUTH))), ("(num, num, truth)", ("tuple", (NUM, NUM, TRUTH))),
                ("{a: num, b: truth}", ("record", (("a", NUM), ("b", TRUTH)), None)),
                ("{a: num | ?0}", ("record", (("a", NUM),), var(0))), ("{}", ("record", (), None)),
                ("{| ?3}", ("record", (), var(3))), ("cell num", ("cell", NUM)), ("List", ("of", "List", ())),
                ("M.List num truth", ("of", "M.List", (NUM, TRUTH))), ("?0", var(0)), ("?999999999", var(999999999)),
                ("(num)", NUM), ("((num))", NUM), ("{num: num, truth: cell num}",
                                                   ("record", (("num", NUM), ("truth", ("cell", NUM))), None))]:
            self.assertEqual(read_kind(text), kind, text)
            self.assertEqual(read_kind("( # (\n" + text.replace(" ", "\n\n ") + " )"), kind, text)

    def test_how_words_bind(self):
        for one, other in [
                ("num -> num -> num", "num -> (num -> num)"), ("cell num -> num", "(cell num) -> num"),
                ("List num -> cell num", "(List num) -> (cell num)"), ("List Option num", "List (Option) (num)"),
                ("List cell_ -> num", None), ("A B C D", "A (B) (C) (D)"), ("A ?0 {} () (num)", "A (?0) ({}) (()) num"),
                ("cell List", "cell (List)"), ("A -> B -> C", "A -> (B -> C)"), ("(A -> B) -> C", "((A -> B)) -> C"),
                ("{a: num -> num, b: List num}", "{a: (num -> num), b: (List num)}")]:
            if other is None:
                self.fails(read_kind, one, 0, 5)
            else:
                self.assertEqual(read_kind(one), read_kind(other), one)
        self.assertEqual(read_kind("A B C"), ("of", "A", (("of", "B", ()), ("of", "C", ()))))
        self.assertEqual(read_kind("num -> num -> truth"), ("to", NUM, ("to", NUM, TRUTH)))

    def test_bad_words(self):
        self.fails_at(
            read_kind, "num !num", "!->", "num -> !->", "num -> !", "cell !cell num", "cell !", "cell List !num",
            "List !cell num", "(num!", "(num !num)", "(num, !)", "(num,!", "(num -> !)", "!x", "!let", "!List.x",
            "!5", "!)", "!_", "num !.", "num != num", "{a !num}", "{a: !}", "{a: num !:", "{a: num, !}", "{!?0}",
            "{a: num |!", "{a: num | !a", "{| ?0 !, ", "{| ?0!", "{!A: num}", "{!get: num}", "{a !b}",
            "{a: num !b: num}", "{a: num, !a: num}", "{b: num, !a: num}", "{a: num, b: num, !aa: num}",
            "{a: {b: num, !b: num}}", "{a: {b: num}, !a: num}", "?0 !?0", "num !)", "{| !num}", "{}!}",
            "(!,)", "num\n  !in", "(num)!(num)", "List num !-", "{a: num\n,\n !,}")

    def test_not_kind(self):
        for text in ("{| ?0} -> ?0", "?0 -> {| ?0}", "{a: num | ?0} -> {| ?0}", "{a: ?0 | ?0}",
                     "({a: num | ?1}, {b: num | ?1})", "List {| ?2} ?2", "(" + "num," * 1999 + "num)"):
            with self.assertRaises(NotKind):
                read_kind(text)
        self.assertTrue(is_kind(read_kind("(" + "num," * 1998 + "num)")))
        self.assertTrue(is_kind(read_kind("{a: num | ?0} -> {a: ?1 | ?0}")))
        self.fails_at(read_kind, "({| ?0}, ?0 !?0", "{| ?0} -> ?0!)")

    def test_deep_ones(self):
        kind = NUM
        text = "num"
        for _ in range(30):
            kind, text = ("cell", ("to", kind, NUM)), f"cell ({text} -> num)"
        self.assertEqual(read_kind(text), kind)
        self.assertEqual(read_kind("num -> " * 30 + "num")[2][2], read_kind("num -> " * 28 + "num"))


class PatternReaderTest(ReaderTest):
    def test_all_forms(self):
        x, y = ("bind", "x"), ("bind", "y")
        for text, pattern in [
                ("_", ("any",)), ("x", x), ("num", ("bind", "num")), ("~5", ("num", -5)), ("0", ("num", 0)),
                ("true", ("truth", True)), ("false", ("truth", False)), ("()", ("tuple", ())),
                ("(x, y)", ("tuple", (x, y))), ("(x, y, _)", ("tuple", (x, y, ("any",)))),
                ("{a = x, b = y}", ("record", (("a", x), ("b", y)))), ("Nil", ("make", "Nil", None)),
                ("M.Some x", ("make", "M.Some", x)), ("Some Nil", ("make", "Some", ("make", "Nil", None))),
                ("Some (Some x)", ("make", "Some", ("make", "Some", x))), ("(x)", x), ("((Some) x)", None),
                ("Some (x, Nil)", ("make", "Some", ("tuple", (x, ("make", "Nil", None))))),
                ("(Some x, {x = y})", ("tuple", (("make", "Some", x), ("record", (("x", y),)))))]:
            if pattern is None:
                self.fails(read_pattern, text, 0, 8)
            else:
                self.assertEqual(read_pattern(text), pattern, text)
                self.assertEqual(read_pattern(f"(({text}))"), pattern, text)
                self.assertTrue(is_pattern(read_pattern(text)))

    def test_bad_words(self):
        self.fails_at(
            read_pattern, "x !x", "_ !_", "!", "(x, !x)", "(x, (y, {a = !x}))", "Some !M.x",
            "!M.x", "!fn", "!)", "!,", "(x!", "(x,!", "(x, !)", "(!,", "{!}", "{a !: x}", "{a = !}", "{a = x, !}",
            "{a = x, !a = y}", "{b = x, !a = y}", "{a = x, b = !x}", "Some Nil !x", "Some Some !Nil", "Some (Some x) !y",
            "x!.a", "!?0", "!->", "1 !2", "true !false", "(x, Some !x)", "{a = x !b = y}", "{!A = x}", "Some !->",
            "() !()", "(x)!(y)", "{a = {b = x}, !a = y}", "(x, {x = !x})")


class TermReaderTest(ReaderTest):
    def test_all_forms(self):
        for text, term in [
                ("7", ("num", 7)), ("~2147483648", ("num", -2147483648)), ("true", ("truth", True)),
                ("false", ("truth", False)), ("a", A), ("M.a", name("M.a")), ("num", name("num")),
                ("fn x -> a", ("fn", "x", A)), ("f a", ("call", F, A)), ("let x = a in b", ("let", "x", A, B)),
                ("let M.x = a in b", ("let", "M.x", A, B)),
                ("rec f = fn x -> a in b", ("rec", (("f", ("fn", "x", A)),), B)),
                ("rec f = fn x -> a and M.g = fn d -> b in c",
                 ("rec", (("f", ("fn", "x", A)), ("M.g", ("fn", "d", B))), C)),
                ("if a then b else c", ("if", A, B, C)), ("()", ("tuple", ())), ("(a, b, c)", ("tuple", (A, B, C))),
                ("{a = b, c = d}", ("record", (("a", B), ("c", D)))), ("a.b", ("field", A, "b")),
                ("M.a.b", ("field", name("M.a"), "b")), ("None", ("make", "None", None)),
                ("M.Some a", ("make", "M.Some", A)),
                ("match a with | x -> b | _ -> c end", ("match", A, ((("bind", "x"), B), (("any",), C)))),
                ("new a", ("new", A)), ("get a", ("get", A)), ("put a b", ("put", A, B)), ("tell a", ("tell", A)),
                ("a + b", op("+", A, B)), ("a - b", op("-", A, B)), ("a * b", op("*", A, B)), ("a < b", op("<", A, B)),
                ("a = b", op("=", A, B)), ("(a)", A), ("(((a)))", A)]:
            self.assertEqual(read_term(text), term, text)
            self.assertEqual(read_term("(" + text.replace(" ", " # |\n") + "\n)"), term, text)
            self.assertTrue(is_term(term))

    def test_levels(self):
        for one, other in [
                ("a - b - c", "(a - b) - c"), ("a - b + c - d", "((a - b) + c) - d"), ("a + b * c", "a + (b * c)"),
                ("a * b + c", "(a * b) + c"), ("a * b * c", "(a * b) * c"), ("a + b < c * d", "(a + b) < (c * d)"),
                ("a - b = c - d", "(a - b) = (c - d)"), ("f a * b", "(f a) * b"), ("a * f b", "a * (f b)"),
                ("f a b c", "((f a) b) c"), ("f a.b c", "(f (a.b)) c"), ("a.b.c", "(a.b).c"), ("a.b c", "(a.b) c"),
                ("f None a", "(f None) a"), ("Some a.b", "Some (a.b)"), ("Some None", "Some (None)"),
                ("new a.b", "new (a.b)"), ("put a.b None", "put (a.b) (None)"), ("get a + tell b", "(get a) + (tell b)"),
                ("new a * Some b", "(new a) * (Some b)"), ("put a b = c", "(put a b) = c"),
                ("fn x -> a b", "fn x -> (a b)"), ("fn x -> a + b < c", "fn x -> ((a + b) < c)"),
                ("fn x -> fn y -> a", "fn x -> (fn y -> a)"), ("let x = fn y -> a in b + c", "let x = (fn y -> a) in (b + c)"),
                ("if a then fn x -> b else fn y -> c d", "if a then (fn x -> b) else (fn y -> (c d))"),
                ("if a = b then c else d = f", "if (a = b) then c else (d = f)"), ("3 4", "(3) (4)"),
                ("true {a = b} ()", "((true) ({a = b})) (())"), ("1.a", "(1).a"), ("~1.a 2", "((~1).a) 2"),
                ("match a with | _ -> b end c", "(match a with | _ -> b end) c"),
                ("f match a with | _ -> b end.c", "f ((match a with | _ -> b end).c)"),
                ("match a with | _ -> match b with | _ -> c | _ -> d end | _ -> f end",
                 "match a with | _ -> (match b with | _ -> c | _ -> d end) | _ -> f end"),
                ("match a with | _ -> fn x -> b | _ -> let y = c in d end",
                 "match a with | _ -> (fn x -> b) | _ -> (let y = c in d) end"),
                ("rec f = fn x -> rec g = fn y -> a and h = fn z -> b in c and k = fn u -> d in f",
                 "rec f = fn x -> (rec g = fn y -> a and h = fn z -> b in c) and k = fn u -> d in f"),
                ("{a = b = c, d = fn x -> a}", "{a = (b = c), d = (fn x -> a)}"), ("(a, fn x -> b, c)", "(a, (fn x -> b), c)"),
                ("(fn x -> x) a", "((fn x -> x)) (a)"), ("a-b", "a - b"), ("a<b", "a < b"), ("f(a)(b)", "(f a) b"),
                ("let x=1in x", "let x = 1 in x"), ("if(a)then(b)else(c)", "if a then b else c"),
                ("f{a=1}.a", "f ({a = 1}.a)"), ("a - ~1", "a - (~1)"), ("a ~1", "a (~1)")]:
            self.assertEqual(read_term(one), read_term(other), one)
        self.assertNotEqual(read_term("a - (b - c)"), read_term("a - b - c"))
        self.assertEqual(read_term("a - b - c"), op("-", op("-", A, B), C))
        self.assertEqual(read_term("f a b"), ("call", ("call", F, A), B))
        self.assertEqual(read_term("(Some) a"), ("call", ("make", "Some", None), A))
        self.assertEqual(read_term("(None).a"), ("field", ("make", "None", None), "a"))

    def test_what_places_want(self):
        self.fails_at(
            read_term, "a < b !< c", "a = b !< c", "a < b !=", "a + !fn x -> x", "a * !let", "a < !if", "a = !rec",
            "f !fn x -> x", "f !new a", "f !get", "f !put", "f !tell", "f a !let", "new !new a", "new !fn", "new a !b",
            "get !get a", "get a !(b)", "tell a !1", "put a !new b", "put a b !c", "put !put", "put a!", "put!",
            "Some a !b", "Some !new a", "Some None !a", "None !.a", "Some None !.a", "f None !.a", "new None !.a", "!< a",
            "a - !- b", "a * !*", "a + !", "a !-> b", "new a.b !c", "Some a.b !c",
            "(f) !new a", "f a !fn", "a * b !fn", "new !if", "tell !-")

    def test_bad_words(self):
        self.fails_at(
            read_term, "a.!1", "a.!B", "a.!get", "a.!", "a.b.!(",
            "fn !M.x -> a", "fn !X", "fn !1", "fn !_", "fn x !a", "fn x ->!", "fn !(x)", "fn x -> !->", "!)", "!in",
            "!end", "!and", "!with", "!then", "!else", "!module", "!use", "!give", "!kind", "!|", "!:", "!?0", "!_",
            "!->", "!=", "!,", "!}", "a !)", "a !in", "a !end", "a !,", "a !:", "a !|", "a !->", "a !?1", "a !_",
            "let !X", "let !1", "let !fn", "let x !a", "let x = !in", "let x = a!", "let x = a !and", "let x = a in!",
            "let !true = a", "rec f = !a", "rec f = !(fn x -> x)", "rec f !fn", "rec !X", "rec f = fn x -> a !let",
            "rec f = fn x -> a!", "rec f = fn x -> a and !f", "rec f = fn x -> a and M.f = fn y -> b and !M.f",
            "rec f = fn x -> a and g = !g", "rec f = fn x -> a in!", "rec f = fn x -> (a !and", "rec f = fn x -> if a !and",
            "rec f = fn x -> let y = a !and", "if a !else", "if a then b!", "if !then", "if a then b else!",
            "if a then b !)", "(a!", "(a, !)", "(!,", "(a !-> b", "{!}", "{!1", "{!A = 1}",
            "{!M.a = 1}", "{a !: 1}", "{a = 1, !a = 2}", "{b = 1, !a = 2}", "{a = 1, !}", "{a = !}", "{a = 1 !|",
            "{a = {b = 1, !b = 2}}", "match a with !end", "match a with !x -> b end", "match a !| x", "match a with | !-> b",
            "match a with | x !b", "match a with | x -> !end", "match a with | x -> b!", "match a with | x -> b !with",
            "match a with | x -> b | !end", "match a with | (x, !x) -> b end", "match a with | !M.x",
            "match a with | x !y", "match !with", "match a with | x -> b end !end", "get!", "new!",
            "() !in", "Some Some !a", "a\n  b !)\n", "a + b\n!)")
        self.fails(read_term, "f x )", 0, 4)
        self.fails(read_term, "f (x\n\n", 2, 0)

    def test_barred_words_begin_nothing_else(self):
        begins = ("let", "rec", "fn", "if", "match", "new", "get", "put", "tell", "true", "false")
        for word in BARRED:
            if word in ("true", "false"):
                self.assertEqual(read_term(word), ("truth", word == "true"))
            else:
                self.fails(read_term, word, 0, len(word) if word in begins else 0)


class ProgramReaderTest(ReaderTest):
    LIST = "kind List ?0 = Nil | Cons (?0, List ?0) "

    def test_programs(self):
        self.assertEqual(read_program("give 1"), ((), ("num", 1)))
        self.assertEqual(read_program(self.LIST + "give Cons (1, Nil)"), (
            (("List", 1, (("Nil", None), ("Cons", ("tuple", (var(0), ("of", "List", (var(0),))))))),),
            ("make", "Cons", ("tuple", (("num", 1), ("make", "Nil", None))))))
        text = "kind A.T ?0 ?1 = A.X ?1 | A.Y kind U = V U2 kind U2 = W (cell num) | W2 {} | W3 num give fn x -> x"
        self.assertEqual(read_program(text)[0], (
            ("A.T", 2, (("A.X", var(1)), ("A.Y", None))), ("U", 0, (("V", ("of", "U2", ())),)),
            ("U2", 0, (("W", ("cell", NUM)), ("W2", ("record", (), None)), ("W3", NUM)))))
        self.assertTrue(is_program(read_program(text)))
        self.assertEqual(read_program("kind T = T give T # kind\n"), ((("T", 0, (("T", None),)),), ("make", "T", None)))

    def test_bad_words(self):
        self.fails_at(
            read_program, "!1", "!fn x -> x", "give!", "kind T = A!", "kind T = A !let", "kind !t = A", "kind !let",
            "kind T !?1 = A", "kind T ?0 !?0 = A", "kind T ?0 !?2 = A", "kind T ?0 ?1 !?3", "kind T !A", "kind T !num = A",
            "kind T = !a", "kind T = !", "kind T = !| A", "kind T = A |!", "kind T = A | !kind", "kind T = A num !num",
            "kind T = A !cell num", "kind T = A List !num", "kind T = A !->", "kind T = A num !-> num", "kind T = A (num !num)",
            "kind T = A !)", "kind T = !M.a", "kind !M.t = A", "kind T = A give 1 !give", "kind T = A give 1 !kind",
            "give 1 !)", "kind T = A {b: num, !a: num} give 1", "kind T = A | B !in", "kind!", "kind T = A kind!",
            "kind T\n = A\n   !x", "kind T = A give (1,!")

    def test_not_program(self):
        for text in ("give x", "give None", "kind T = A give A 1", "kind T = A num give A", "kind T = A ?0 give 1",
                     "kind T ?0 = A ?1 give 1", "kind T ?0 = A {| ?0} give 1", "kind T ?0 = A {| ?1} give 1",
                     "kind T = A kind T = B give 1", "kind T = A kind U = A give 1", "kind T = A | A give 1",
                     "kind T = A U give 1", "kind T ?0 = A kind U = B T give 1", "kind T = A T give 1",
                     "kind T = A U kind U = B T give 1", "kind T = A give fn x -> match x with | B -> 1 end",
                     "kind T = A give fn x -> match x with | (A y, _) -> 1 end", "give rec f = fn x -> g in f",
                     "kind T = A (" + "num," * 1999 + "num) give 1"):
            with self.assertRaises(NotProgram, msg=text):
                read_program(text)
        self.fails_at(read_program, "give x !)", "kind T = A T give 1 !,", "kind T = A ?0 !?1")


class NewnessTest(unittest.TestCase):
    def test_the_same_is_told_again(self):
        for read, text in [(read_kind, "{a: num -> ?0 | ?1}"), (read_pattern, "A (x, {a = y})"),
                           (read_term, "match f x with | A (x, y) -> {a = x} end"),
                           (read_program, "kind T = A num give A 1"), (read_modules, "module A let x = 1 give x")]:
            self.assertEqual(frozen(read(text)), frozen(read(text)))


if __name__ == "__main__":
    unittest.main()
