"""[21], [22]: modules joined."""

import itertools
import random
import unittest

from kindsworn.errors import Hidden, NoModule, NoName, NotFit, NoValues, SwornError, Twice, UseRing
from kindsworn.forms import is_program
from kindsworn.joining import items_at, joined, order_of, whose
from kindsworn.modules import is_module
from kindsworn.moduletexts import read_modules
from kindsworn.reader import read_term
from kindsworn.shower import show_program, show_term
from kindsworn.trees import part_at, places_of
from tests.anything import frozen
from tests.oracle import value_of


def told(call, *arguments):
    """What a call returns, or the name of the error that it raises, and its fields."""
    try:
        return call(*arguments)
    except SwornError as error:
        return (type(error).__name__,) + tuple(vars(error).values())


class OrderTest(unittest.TestCase):
    def orders(self, text, name, expected):
        modules = read_modules(text)
        for others in itertools.permutations(modules):
            self.assertEqual(told(order_of, others, name), expected)

    def test_trees_and_diamonds(self):
        self.orders("module A", "A", ("A",))
        self.orders("module A use B, C module B module C", "A", ("B", "C", "A"))
        self.orders("module A use C, B module B module C", "A", ("C", "B", "A"))
        self.orders("module A use B module B use C module C module D use A", "A", ("C", "B", "A"))
        self.orders("module A use B module B use C module C module D use A", "B", ("C", "B"))
        self.orders("module A use B, C module B use D module C use D module D", "A", ("D", "B", "C", "A"))
        self.orders("module A use B, C, D module B use D module C use B, D module D", "A", ("D", "B", "C", "A"))
        self.orders("module A use B, D module B use C module C use D module D", "A", ("D", "C", "B", "A"))

    def test_modules_that_are_not_needed_are_left_out(self):
        self.orders("module A module B use No module C use D module D use C", "A", ("A",))

    def test_rings(self):
        self.orders("module A use B module B use A", "A", ("UseRing", ("A", "B")))
        self.orders("module A use B module B use A", "B", ("UseRing", ("B", "A")))
        self.orders("module A use B module B use C module C use D module D use B", "A", ("UseRing", ("B", "C", "D")))
        self.orders("module A use X, B module B use A module X", "A", ("UseRing", ("A", "B")))
        self.orders("module A use B, C module B use C module C use A module D", "A", ("UseRing", ("A", "B", "C")))

    def test_modules_that_are_not_there(self):
        self.orders("module A", "B", ("NoModule", "B", "B"))
        self.orders("module A use B", "A", ("NoModule", "A", "B"))
        self.orders("module A use B module B use C, D", "A", ("NoModule", "B", "C"))
        self.assertEqual(told(order_of, (), "A"), ("NoModule", "A", "A"))

    def test_what_is_met_first(self):
        self.orders("module A use B, No module B use A", "A", ("UseRing", ("A", "B")))
        self.orders("module A use No, B module B use A", "A", ("NoModule", "A", "No"))
        self.orders("module A use B, C module B use No module C use A", "A", ("NoModule", "B", "No"))

    def test_names_of_two_modules(self):
        self.orders("module A module A", "A", ("Twice", "A", "A"))
        self.orders("module C module B module C module B", "A", ("Twice", "B", "B"))
        self.orders("module A use B module B use A module D module D", "A", ("Twice", "D", "D"))
        self.orders("module D module D module D", "No", ("Twice", "D", "D"))

    def test_a_long_chain(self):
        text = "\n".join(f"module M{at} use M{at + 1} let x = M{at + 1}.x give x" for at in range(60))
        modules = read_modules(text + " module M60 let x = 1 give x module Main use M0 let main = M0.x")
        self.assertEqual(order_of(modules, "Main"), tuple(f"M{at}" for at in range(60, -1, -1)) + ("Main",))
        self.assertTrue(is_program(joined(modules, "Main")))


class JoinedTest(unittest.TestCase):
    def raises(self, text, expected, name="Main"):
        modules = read_modules(text)
        for others in itertools.permutations(modules):
            before = frozen(others)
            for call in (joined, items_at, lambda *given: whose(*given, ())):
                self.assertEqual(told(call, others, name), expected)
            self.assertEqual(frozen(others), before)

    def makes(self, text, program, name="Main"):
        modules = read_modules(text)
        for others in itertools.permutations(modules):
            made = joined(others, name)
            self.assertEqual(show_program(made), program)
            self.assertTrue(is_program(made))

    def test_declarations_and_nest(self):
        self.makes("module Main let main = 1", "give let Main.main = 1 in Main.main")
        self.makes("module Main use B, A kind T = X (A.L num) | Y let main = B.f A.x Y "
                   "module A kind L ?0 = N | C (?0, L ?0) let x = C (1, N) give kind L *, x "
                   "module B use A rec f = fn x -> g x and g = fn y -> f A.x kind M = O (A.L M) give f",
                   "kind A.L ?0 = A.N | A.C (?0, A.L ?0)\nkind B.M = B.O (A.L B.M)\nkind Main.T = Main.X (A.L num) | Main.Y\n"
                   "give let A.x = A.C (1, A.N) in rec B.f = fn x -> B.g x and B.g = fn y -> B.f A.x in "
                   "let Main.main = B.f A.x Main.Y in Main.main")

    def test_main_need_not_be_last(self):
        self.makes("module Main let main = 1 let x = main", "give let Main.main = 1 in let Main.x = Main.main in Main.main")
        self.makes("module Main rec f = fn x -> x and main = fn x -> f x",
                   "give rec Main.f = fn x -> x and Main.main = fn x -> Main.f x in Main.main")

    def test_names_that_hide_others(self):
        self.makes("module Main let x = 1 let y = 2 let main = (x, fn x -> x, let y = x in y, rec x = fn y -> x y in x y, "
                   "match y with | (x, {a = y}) -> x y | _ -> x y end, let x = x in x)",
                   "give let Main.x = 1 in let Main.y = 2 in let Main.main = (Main.x, fn x -> x, let y = Main.x in y, "
                   "rec x = fn y -> x y in x Main.y, match Main.y with | (x, {a = y}) -> x y | _ -> Main.x Main.y end, "
                   "let x = Main.x in x) in Main.main")

    def test_patterns_and_makers(self):
        self.makes("module Main use A kind T = X A.T | Y let main = fn x -> match x with | X (A.P (A.Q, 1)) -> Y | {a = Y} -> "
                   "X (A.P (A.Q, 2)) end module A kind T = P (T, num) | Q give kind T *",
                   "kind A.T = A.P (A.T, num) | A.Q\nkind Main.T = Main.X A.T | Main.Y\n"
                   "give let Main.main = fn x -> match x with | Main.X (A.P (A.Q, 1)) -> Main.Y | {a = Main.Y} -> "
                   "Main.X (A.P (A.Q, 2)) end in Main.main")

    def test_all_of_a_kind_are_named_everywhere(self):
        self.makes("module Main let main = B kind T = A U kind U = B",
                   "kind Main.T = Main.A Main.U\nkind Main.U = Main.B\ngive let Main.main = Main.B in Main.main")

    def test_twice(self):
        self.raises("module Main let x = 1 let x = 2", ("Twice", "Main", "x"))
        self.raises("module Main let x = 1 rec f = fn x -> x and x = fn y -> y", ("Twice", "Main", "x"))
        self.raises("module Main kind T = A kind T = B", ("Twice", "Main", "T"))
        self.raises("module Main kind T = A | B | B", ("Twice", "Main", "B"))
        self.raises("module Main kind T = A kind U = B | A", ("Twice", "Main", "A"))
        self.raises("module Main kind T = A let x = 1 kind U = A let x = 1", ("Twice", "Main", "A"))
        self.raises("module Main kind T = A let x = 1 let x = 1 kind U = A", ("Twice", "Main", "x"))
        self.raises("module Main let x = no let x = 1", ("Twice", "Main", "x"))
        self.makes("module Main kind T = T kind U = V let main = T", "kind Main.T = Main.T\nkind Main.U = Main.V\n"
                   "give let Main.main = Main.T in Main.main")
        self.raises("module Main kind A = T kind T = A kind A = T", ("Twice", "Main", "A"))

    def test_no_name(self):
        for text, name in [("let main = x", "x"), ("let main = main", "main"), ("let main = x let x = 1", "x"),
                           ("let main = f 1 rec f = fn x -> x", "f"), ("rec f = fn x -> main let main = f", "main"),
                           ("let main = A", "A"), ("let main = A (b, C)", "A"), ("let main = b (A, C)", "b"),
                           ("let main = match 1 with | A -> b end", "A"), ("let main = match 1 with | x -> b | A -> 1 end", "b"),
                           ("let main = match c with | A -> b end", "c"), ("kind T = A U let main = x", "U"),
                           ("let main = x kind T = A U", "x"), ("kind T = A (num -> {a: U T, b: V})", "U"),
                           ("let main = (fn x -> x) x", "x"), ("let main = {a = let y = 1 in y, b = y}", "y"),
                           ("let main = fn x -> match x with | (A, y) -> y end", "A"), ("let main = T kind T = A", "T"),
                           ("kind T = A A", "A"), ("rec main = fn x -> g x and f = fn y -> main", "g"),
                           ("let main = x + y", "x"), ("let main = put 1 y", "y"), ("let main = if 1 then y else z", "y"),
                           ("let main = let x = x in x", "x"), ("let main = match 1 with | {a = (_, B), b = C} -> d end", "B"),
                           ("kind T = A num kind U = B (T, {a: cell W}, X)", "W")]:
            self.raises("module Main " + text, ("NoName", "Main", name))

    def test_hidden(self):
        other = (" module A kind T ?0 = P ?0 | Q kind U = R kind V = S let x = 1 let y = 2 rec f = fn x -> x "
                 "give x, f, kind T *, kind U, none, kind None *, kind None")
        for text, name in [("let main = A.y", "A.y"), ("let main = A.none", "A.none"), ("let main = A.z", "A.z"),
                           ("let main = A.S", "A.S"), ("let main = A.R", "A.R"), ("kind W = X A.V let main = 1", "A.V"),
                           ("let main = match 1 with | A.R -> 1 end", "A.R"), ("kind W = X A.None let main = 1", "A.None"),
                           ("let main = Main.main", "Main.main"), ("let x = 1 let main = Main.x", "Main.x"),
                           ("kind W = X Main.W let main = 1", "Main.W"), ("kind W = X let main = Main.X", "Main.X"),
                           ("let main = B.x", "B.x"), ("let main = A.P (B.x, y)", "B.x"), ("kind W = X (A.T B.U)", "B.U"),
                           ("let main = A.T", "A.T"), ("kind W = X A.P", "A.P"), ("let main = fn x -> A.y x", "A.y")]:
            self.raises("module Main use A " + text + other, ("Hidden", "Main", name))
        self.raises("module Main let main = A.x" + other, ("Hidden", "Main", "A.x"))
        self.raises("module Main use B let main = A.x module B use A let z = A.x give z" + other, ("Hidden", "Main", "A.x"))
        self.makes("module Main use A kind W = X (A.T A.U) let main = A.P (A.x, A.f, A.Q)" + other,
                   "kind A.T ?0 = A.P ?0 | A.Q\nkind A.U = A.R\nkind A.V = A.S\nkind Main.W = Main.X (A.T A.U)\n"
                   "give let A.x = 1 in let A.y = 2 in rec A.f = fn x -> x in let Main.main = A.P (A.x, A.f, A.Q) in Main.main")

    def test_not_fit(self):
        other = " module A kind T ?0 = P ?0 | Q give kind T * module Extra"
        for text, name in [("let main = A.P", "A.P"), ("let main = A.Q 1", "A.Q"), ("let main = A.Q x", "A.Q"),
                           ("let main = match 1 with | A.P -> 1 end", "A.P"), ("kind W = X A.T", "A.T"),
                           ("let main = match 1 with | (A.P A.P, _) -> 1 end", "A.P"), ("kind W = X (A.T A.T num)", "A.T"),
                           ("let main = match 1 with | A.Q x -> y end", "A.Q"), ("kind W ?0 = X (W ?0 ?0)", "W"),
                           ("kind W = X (num, W num)", "W"), ("kind W = X num let main = X", "X"), ("kind W = X (A.T Y)", "Y"),
                           ("kind W = X let main = fn y -> X y", "X"), ("let main = A.P (A.P (A.P, A.Q z))", "A.P")]:
            expected = ("NoName" if name == "Y" else "NotFit", "Main", name)
            self.raises("module Main use A " + text + other, expected)

    def test_no_values(self):
        self.raises("module Main kind T = A T let main = 1", ("NoValues", "Main", "T"))
        self.raises("module Main kind U = B kind T = A (T, num) kind V = C V let main = 1", ("NoValues", "Main", "T"))
        self.raises("module Main kind V = C T kind T = A (cell T) let main = 1", ("NoValues", "Main", "V"))
        self.raises("module Main use A kind T = X (A.B T) let main = 1 module A kind B ?0 = C ?0 give kind B",
                    ("NoValues", "Main", "T"))
        self.makes("module Main use A kind T = X (A.B T) let main = 1 module A kind B ?0 = C ?0 | D give kind B",
                   "kind A.B ?0 = A.C ?0 | A.D\nkind Main.T = Main.X (A.B Main.T)\ngive let Main.main = 1 in Main.main")
        self.raises("module Main use A kind T = X T module A kind U = Y U", ("NoValues", "A", "U"))

    def test_no_main(self):
        self.raises("module Main", ("NoName", "Main", "main"))
        self.raises("module Main let x = 1", ("NoName", "Main", "main"))
        self.raises("module Main use A module A let main = 1 give main", ("NoName", "Main", "main"))
        self.raises("module Main kind T = A T", ("NoValues", "Main", "T"))
        self.raises("module Main use A module A let x = y", ("NoName", "A", "y"))
        self.raises("module B let main = 1", ("NoModule", "Main", "Main"))

    def test_what_comes_first(self):
        self.raises("module Main use A let x = A.y let x = B module A let z = no", ("NoName", "A", "no"))
        self.raises("module Main use A let x = A.y let x = B module A let y = 1", ("Twice", "Main", "x"))
        self.raises("module Main use A let x = A.y let z = B module A let y = 1", ("Hidden", "Main", "A.y"))
        self.raises("module Main use A let z = B let x = A.y module A let y = 1", ("NoName", "Main", "B"))
        self.raises("module Main kind T = A T let z = B", ("NoName", "Main", "B"))
        self.raises("module Main kind T = A let z = A 1 let y = q", ("NotFit", "Main", "A"))
        self.raises("module Main kind T = A let z = A q", ("NotFit", "Main", "A"))
        self.raises("module Main kind T = A let z = q (A 1)", ("NoName", "Main", "q"))
        self.raises("module Main use A, B module A kind T = X T module B let x = 1 let x = 1", ("NoValues", "A", "T"))
        self.raises("module Main use B, A module A kind T = X T module B let x = 1 let x = 1", ("Twice", "B", "x"))
        self.raises("module Main use A, B let main = x module A module B use C module C use B", ("UseRing", ("B", "C")))
        self.raises("module Main let main = x module A module A", ("Twice", "A", "A"))
        self.raises("module Main kind T = A (No num) let main = 1", ("NoName", "Main", "No"))

    def test_only_the_kind_is_given(self):
        other = " module A kind T = P num let make = fn x -> P x let take = fn t -> match t with | P x -> x end "
        self.makes("module Main use A kind W = X A.T let main = X (A.make 1)" + other + "give make, take, kind T",
                   "kind A.T = A.P num\nkind Main.W = Main.X A.T\ngive let A.make = fn x -> A.P x in "
                   "let A.take = fn t -> match t with | A.P x -> x end in let Main.main = Main.X (A.make 1) in Main.main")
        self.raises("module Main use A let main = A.P 1" + other + "give kind T", ("Hidden", "Main", "A.P"))
        self.raises("module Main use A let main = fn t -> match t with | A.P x -> x end" + other + "give kind T",
                    ("Hidden", "Main", "A.P"))
        self.raises("module Main use A kind W = X A.T" + other + "give make", ("Hidden", "Main", "A.T"))
        self.assertEqual(joined(read_modules("module Main use A let main = A.P 1" + other + "give kind T *"), "Main")[0],
                         (("A.T", 0, (("A.P", ("num",)),)),))


class PlacesTest(unittest.TestCase):
    TEXT = ("module Main use A kind T = X let y = A.f let main = y (A.x 1) module A let x = fn a -> a kind U = Y "
            "rec f = fn x -> g x and g = fn y -> f y and h = fn z -> z give f, x")

    def test_items_at(self):
        modules = read_modules(self.TEXT)
        items = [("A", 0, ()), ("A", 2, (1,)), ("Main", 1, (1, 3)), ("Main", 2, (1, 3, 1))]
        self.assertEqual(items_at(modules, "Main"), items)
        self.assertEqual(items_at(modules[::-1], "Main"), items)
        self.assertIsNot(items_at(modules, "Main"), items_at(modules, "Main"))
        items_at(modules, "Main").clear()
        self.assertEqual(items_at(modules, "Main"), items)
        term = joined(modules, "Main")[1]
        self.assertEqual([part_at(term, place)[0] for _, _, place in items], ["let", "rec", "let", "let"])
        self.assertEqual(items_at(read_modules("module Main rec main = fn x -> x"), "Main"), [("Main", 0, ())])

    def test_whose(self):
        modules = read_modules(self.TEXT)
        term = joined(modules, "Main")[1]
        midst = (1, 3, 1, 1)
        self.assertEqual(part_at(term, midst), ("name", "Main.main"))
        for place, expected in [((), ("A", 0, ())), ((0,), ("A", 0, (0,))), ((0, 0), ("A", 0, (0, 0))), ((1,), ("A", 2, ())),
                                ((1, 0, 0, 1), ("A", 2, (0, 0, 1))), ((1, 2), ("A", 2, (2,))), ((1, 3), ("Main", 1, ())),
                                ((1, 3, 0), ("Main", 1, (0,))), ((1, 3, 1), ("Main", 2, ())),
                                ((1, 3, 1, 0, 1, 0), ("Main", 2, (0, 1, 0))), (midst, None)]:
            self.assertEqual(whose(modules, "Main", place), expected)
        nones = 0
        for place in places_of(term):
            answer = whose(modules, "Main", place)
            nones += answer is None
            if answer is not None:
                module = [one for one in modules if one[0] == answer[0]][0]
                item = module[2][answer[1]]
                own = ("let", item[1], item[2], None) if item[0] == "let" else ("rec", item[1], None)
                part = part_at(own, answer[2])
                self.assertEqual(part[0], part_at(term, place)[0])
        self.assertEqual(nones, 1)


class RandomTest(unittest.TestCase):
    """joined, told once more: all errors of the words of a text are looked for in the order of the text."""

    def words(self, thing, bound, own):
        """What stands in a term in the order of the text: (sort, word, what is behind it)."""
        head = thing[0]
        if head == "name":
            return [] if thing[1] in bound else [("value", thing[1], own)]
        if head == "fn":
            return self.words(thing[2], bound | {thing[1]}, own)
        if head == "let":
            return self.words(thing[2], bound, own) + self.words(thing[3], bound | {thing[1]}, own)
        if head == "rec":
            more = bound | {name for name, _ in thing[1]}
            return sum([self.words(fn, more, own) for _, fn in thing[1]], []) + self.words(thing[2], more, own)
        if head == "make":
            return [("maker", thing[1], thing[2] is not None)] + (self.words(thing[2], bound, own) if thing[2] else [])
        if head == "match":
            found = self.words(thing[1], bound, own)
            for pattern, body in thing[2]:
                names = set()
                found += self.pattern_words(pattern, names) + self.words(body, bound | names, own)
            return found
        if head == "tuple":
            return sum([self.words(part, bound, own) for part in thing[1]], [])
        if head == "record":
            return sum([self.words(part, bound, own) for _, part in thing[1]], [])
        return sum([self.words(part, bound, own) for part in thing[1:] if isinstance(part, tuple)], [])

    def pattern_words(self, thing, names):
        if thing[0] == "bind":
            names.add(thing[1])
            return []
        if thing[0] == "make":
            return [("maker", thing[1], thing[2] is not None)] + (self.pattern_words(thing[2], names) if thing[2] else [])
        if thing[0] == "tuple":
            return sum([self.pattern_words(part, names) for part in thing[1]], [])
        return sum([self.pattern_words(part, names) for _, part in thing[1]], []) if thing[0] == "record" else []

    def kind_words(self, thing):
        if thing[0] == "of":
            return [("kind", thing[1], len(thing[2]))] + sum([self.kind_words(part) for part in thing[2]], [])
        if thing[0] == "record":
            return sum([self.kind_words(part) for _, part in thing[1]], [])
        if thing[0] == "tuple":
            return sum([self.kind_words(part) for part in thing[1]], [])
        return sum([self.kind_words(part) for part in thing[1:] if isinstance(part, tuple)], [])

    def first_fault(self, module, known):
        """The first error of a module, None if there is none; its words are looked up in known."""
        met, seen, words = set(), [], []
        for item in module[2]:
            if item[0] == "kind":
                mine = [("kind", item[1][0])] + [("maker", maker) for maker, _ in item[1][2]]
                words += sum([self.kind_words(kind) for _, kind in item[1][2] if kind], [])
            elif item[0] == "let":
                mine = [("value", item[1])]
                words += self.words(item[2], set(), list(seen))
                seen.append(item[1])
            else:
                mine = [("value", name) for name, _ in item[1]]
                seen += [name for _, name in mine]
                words += sum([self.words(fn, set(), list(seen)) for _, fn in item[1]], [])
            for one in mine:
                if one in met:
                    return ("Twice", module[0], one[1])
                met.add(one)
        for sort, word, behind in words:
            if sort == "value" and word in behind:
                continue
            table = known.get((module[0] if "." not in word else word.split(".")[0], sort), {})
            bare = word.split(".")[-1]
            if "." in word and (word.split(".")[0] not in module[1] or bare not in table or not table[bare][0]):
                return ("Hidden", module[0], word)
            if "." not in word and (bare not in table or sort == "value"):
                return ("NoName", module[0], word)
            if sort != "value" and table[bare][1] != behind:
                return ("NotFit", module[0], word)
        return None

    def tables(self, module):
        """What a module has: for each of its sorts a dict from names to whether it is given, and what it takes."""
        values, kinds, makers = {}, {}, {}
        for item in module[2]:
            if item[0] == "kind":
                name, many, rows = item[1]
                bare = ("open", name) in module[3]
                kinds[name] = (bare or ("kind", name) in module[3], many)
                for maker, kind in rows:
                    makers[maker] = (bare, kind is not None)
            for name in [item[1]] if item[0] == "let" else [name for name, _ in item[1]] if item[0] == "rec" else []:
                values[name] = (("value", name) in module[3], None)
        return {(module[0], "value"): values, (module[0], "kind"): kinds, (module[0], "maker"): makers}

    def expected(self, modules, name):
        known, rows = {}, []
        for one in order_of(modules, name):
            module = [other for other in modules if other[0] == one][0]
            known.update(self.tables(module))
            fault = self.first_fault(module, known)
            if fault:
                return fault
            mine = [item[1] for item in module[2] if item[0] == "kind"]

            def full(kind):
                if kind[0] == "of":
                    head = kind[1] if "." in kind[1] else f"{one}.{kind[1]}"
                    return ("of", head, tuple(full(part) for part in kind[2]))
                if kind[0] == "record":
                    return ("record", tuple((label, full(part)) for label, part in kind[1]), kind[2])
                if kind[0] == "tuple":
                    return ("tuple", tuple(full(part) for part in kind[1]))
                return tuple(full(part) if isinstance(part, tuple) else part for part in kind)

            for head, many, makers in mine:
                rows.append((f"{one}.{head}", many, tuple((f"{one}.{maker}", kind and full(kind)) for maker, kind in makers)))
            for head, many, _ in mine:
                if not value_of(rows, ("of", f"{one}.{head}", tuple(("var", at) for at in range(many))), 8):
                    return ("NoValues", one, head)
        last = [other for other in modules if other[0] == name][0]
        return None if "main" in self.tables(last)[(name, "value")] else ("NoName", name, "main")

    def random_text(self, chance, name, uses):
        """A module in which now and then something is not as it should be."""
        slips = chance.choice([0, 0, 1])

        def slip(wrong, right):
            return chance.choice(wrong) if slips and chance.randrange(9) == 0 else chance.choice(right)

        def term(room, names):
            outer = [f"{use}.{word}" for use in uses for word in ("x", "f", "N")]
            way = chance.randrange(5 if room else 2)
            if way == 0:
                return slip(["main", "none", "P", "C", "A.z", "B.x", "Main.x", "A.P 1", "N 1"], ["1", "()"] + names)
            if way == 1:
                return chance.choice(["N", "Q"] + outer + outer)
            frame, more = chance.choice([
                ("(fn y -> {})", ["y"]), ("({} {})", []), ("(C ({}, {}))", []), ("(let y = 1 in {} {})", ["y"]),
                ("(rec f = fn y -> {} in f)", ["f", "y"]), ("match 1 with | C (z, N) -> {} | z -> {} end", ["z"]),
                ("({} + {})", []), ("{{a = {}, b = {}}}", [])])
            return frame.format(*[term(room - 1, names + more) for _ in range(2)])

        def kind():
            return slip(["L", "(T num)", "V", "?0 num", "A.T", "(A.L)", "(cell T)", "T", "B.T"],
                        ["num", "(L num)", "(num -> T)", "(L T)"] + [f"({use}.L num)" for use in uses])

        items = ["kind L ?0 = N | C (?0, L ?0)", f"kind T = P {kind()} | {slip(['N', 'P', 'R U', 'Q num'], ['Q'])}"]
        if slips and chance.randrange(4) == 0:
            items[1] = f"kind T = P {slip(['num', '(T, num)', '(A.L T)'], ['T', '(L T)', '(cell T)', '(num, T)'])} kind Z = Q"
        items += [f"let x = {term(2, [])}", f"rec f = fn x -> {term(2, ['x', 'f'])}", f"let y = {term(2, ['x', 'f'])}"]
        items += [f"let main = {term(3, ['x', 'f'])}"]
        if slips:
            del items[chance.randrange(9):][:1]
            items.append(slip(["let x = 1", "kind V = N", "kind T = W", "kind U = V U"], [f"kind U = V {kind()}"]))
        gives = [give for give in ("x", "f", "kind L *", "kind T") if not slips or chance.randrange(6)]
        return (f"module {name} " + ("use " + ", ".join(uses) + " " if uses else "") + " ".join(items)
                + (" give " + ", ".join(gives) if gives else "") + "\n")

    def test_random_modules(self):
        chance = random.Random(17)
        words = {}
        for _ in range(2500):
            try:
                modules = read_modules("".join([
                    self.random_text(chance, "A", []), self.random_text(chance, "B", ["A"] if chance.randrange(3) else []),
                    self.random_text(chance, "Main", chance.choice([["A"], ["B"], ["B", "A"], ["A", "B"]]))]))
            except SwornError:
                continue
            self.assertTrue(all(is_module(module) for module in modules))
            expected = self.expected(modules, "Main")
            got = told(joined, modules, "Main")
            if expected is None:
                self.assertTrue(is_program(got), show_program(got))
                self.assertEqual(len(items_at(modules, "Main")),
                                 sum(item[0] != "kind" for module in modules if module[0] in order_of(modules, "Main")
                                     for item in module[2]))
            else:
                self.assertEqual(got, expected)
            self.assertEqual(told(joined, modules[::-1], "Main"), got)
            words[(expected or ("fine",))[0]] = words.get((expected or ("fine",))[0], 0) + 1
        self.assertGreater(min(words.get(word, 0) for word in ("fine", "Twice", "NoName", "Hidden", "NotFit", "NoValues")), 20,
                           words)


if __name__ == "__main__":
    unittest.main()
