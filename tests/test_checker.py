"""[31] to [33]: the checker, schemes of programs, and the plain way of a let."""

import itertools
import random
import unittest

from kindsworn import errors
from kindsworn.checker import derivation_of, has_derivation, has_scheme, scheme_of_program, spread_out
from kindsworn.derivations import is_derivation
from kindsworn.forms import is_program, is_scheme
from kindsworn.kinds import are_fit, variables_in
from kindsworn.reader import read_kind, read_program
from kindsworn.schemes import is_instance, is_more_general, scheme_of
from kindsworn.trees import are_alike, free_names, is_settled, part_at, parts_of, places_of, size_of, with_parts
from tests.anything import frozen
from tests.plain import alike_text, comes_to, kinds_of, put, shared_places
from tests.test_derivations import HEAD, rests_of
from tests.typed import DECLARATIONS, lets_program, mixed_program, random_program, some_kind

NUM, TRUTH, UNIT = ("num",), ("truth",), ("tuple", ())
NAME = lambda name: ("name", name)


def program_of(text):
    program = read_program(HEAD + text)
    assert is_program(program)
    return program


def scheme(text):
    return scheme_of(read_kind(text))


def some_lot(chance, places):
    """All places, none, few or many of them."""
    way = chance.randrange(4)
    often = {0: 1000, 1: 100, 2: 500, 3: 850}[way]
    return tuple(place for place in places if chance.randrange(1000) < often)


def doubled(many, last):
    """Lets of pairs, each of the one ahead of it twice, so often, and last behind them."""
    for at in range(many, 0, -1):
        last = ("let", f"x{at}", ("tuple", (NAME(f"x{at - 1}"),) * 2), last)
    return last


class DerivationsTest(unittest.TestCase):
    def right(self, program, lot):
        """That what is told of a lot is right; whether there is a derivation."""
        before = frozen((program, lot))
        found, kinds = derivation_of(program, lot), kinds_of(program, lot)
        self.assertEqual(found is None, kinds is None, program)
        self.assertIs(has_derivation(program, lot), found is not None)
        self.assertEqual(frozen((program, lot)), before)
        if found is None:
            return False
        self.assertEqual(frozen(derivation_of(program, lot)), frozen(found))
        self.assertIs(is_derivation(program, lot, found), True)
        self.assertEqual([list(part) for part in found], [list(places_of(program[1])), sorted(shared_places(program, lot))])
        places = places_of(program[1])
        self.assertEqual(alike_text([found[0][place] for place in places]), alike_text([kinds[place] for place in places]))
        return True

    def test_random_programs(self):
        chance = random.Random(31)
        met = {True: 0, False: 0}
        for turn in range(700):
            program = mixed_program(chance, 3) if turn % 2 else random_program(chance, chance.choice([2, 3, 4]), chance.choice([0, 30]))
            places = places_of(program[1])
            if len(places) > 130:
                continue
            for lot in (places, some_lot(chance, places)):
                met[self.right(program, lot)] += 1
            if kinds_of(program, places) is not None:
                self.assertIs(has_derivation(program, some_lot(chance, places)), True)
        self.assertGreater(min(met.values()), 100)

    def test_random_lets(self):
        chance = random.Random(35)
        met = {True: 0, False: 0}
        general = 0
        for _ in range(900):
            program = lets_program(chance)
            places = places_of(program[1])
            if len(places) > 90:
                continue
            fine = self.right(program, places)
            met[fine] += 1
            general += fine and any(derivation_of(program, places)[1].values())
            self.right(program, some_lot(chance, places))
        self.assertGreater(min(list(met.values()) + [general]), 100)

    def test_lots(self):
        program = program_of("(fn x -> x + true) ()")
        places = places_of(program[1])
        for lot, told in [((), True), (places, False), (((0, 0),), True), (((0, 0), (0, 0, 1)), False), (((0, 0), (0, 0, 0)), True),
                          (((), (0,), (0, 0), (0, 0, 0), (1,)), False), (((0,), (0, 0), (0, 0, 0), (1,)), True), (((), (0, 0), (0, 0, 0), (1,)), True)]:
            self.assertEqual(self.right(program, lot), told, lot)

    def test_what_is_told_may_be_changed(self):
        program = program_of("let i = fn x -> x in i 1")
        found = derivation_of(program, places_of(program[1]))
        found[0].clear()
        found[1].clear()
        self.assertEqual(len(derivation_of(program, places_of(program[1]))[0]), 6)

    def test_brute_force(self):
        """All derivations with small kinds are had by putting in."""
        kinds = [read_kind(text) for text in ("num", "truth", "?0", "num -> num", "?0 -> ?0", "cell ?0", "{a: ?0 | ?7}", "{a: num}", "List ?0")]
        many = 0
        for text in ("let x = 1 in x", "fn x -> x", "let f = fn x -> x in f", "let x = new 1 in x", "rec f = fn x -> f in f", "1 + true",
                     "fn x -> x.a", "match 1 with | x -> x end", "let x = {a = 1} in x", "if true then 1 else 2", "let x = Nil in x", "get (new 1)"):
            program = program_of(text)
            places = places_of(program[1])
            lots = [lot for size in range(len(places) + 1) for lot in itertools.combinations(places, size)]
            best = {lot: derivation_of(program, lot) for lot in lots}
            self.assertLess(len(places), 5)
            for some in itertools.product(kinds if len(places) < 4 else kinds[1:6], repeat=len(places)):
                if not are_fit(list(some)):
                    continue
                given = dict(zip(places, some))
                for lot in lots:
                    thing = (given, {place: tuple(index for index in (0, 7) if index in variables_in(given[place + (0,)]))
                                     for place in shared_places(program, lot)})
                    if is_derivation(program, lot, thing):
                        self.assertIsNotNone(best[lot], (text, lot, thing))
                        one = ("of", "All", tuple(best[lot][0].values()))
                        # The kinds that are told come to these, all at once.
                        self.assertTrue(comes_to(one, ("of", "All", some), variables_in(one)), (text, lot, thing))
                        many += 1
        self.assertGreater(many, 1000)

    def test_none_just_where_there_is_none(self):
        """A derivation that the judge accepts is never denied."""
        chance = random.Random(32)
        for _ in range(150):
            program = mixed_program(chance, 2)
            places = places_of(program[1])
            fewer = tuple(place for place in places if chance.randrange(4))
            found = derivation_of(program, places)
            if found is not None:
                kept = (found[0], {place: general for place, general in found[1].items() if place in fewer})
                self.assertIs(is_derivation(program, fewer, kept), True)
                one = ("of", "All", tuple(derivation_of(program, fewer)[0].values()))
                self.assertTrue(comes_to(one, ("of", "All", tuple(found[0].values())), variables_in(one)))


class SchemesTest(unittest.TestCase):
    def test_schemes(self):
        for text, told in [
                ("1", "num"), ("fn x -> x", "?0 -> ?0"), ("fn x -> fn y -> x", "?0 -> ?1 -> ?0"), ("fn x -> x x", None),
                ("let i = fn x -> x in i i", "?0 -> ?0"), ("(fn i -> i i) (fn x -> x)", None), ("let p = (Nil, Nil) in p", "(List ?0, List ?1)"),
                ("let c = new Nil in (put c (Cons (1, Nil)), c)", "((), cell (List num))"),
                ("let c = new Nil in (put c (Cons (1, Nil)), put c (Cons (true, Nil)))", None),
                ("let f = fn x -> new x in (f 1, f true)", "(cell num, cell truth)"), ("fn r -> r.a r.b", "{a: ?0 -> ?1, b: ?0 | ?2} -> ?1"),
                ("fn r -> (r.a, (fn s -> s) r)", "{a: ?0 | ?1} -> (?0, {a: ?0 | ?1})"), ("{a = 1}.b", None), ("fn r -> if true then r else {a = 1}", "{a: num} -> {a: num}"),
                ("let get_a = fn r -> r.a in (get_a {a = 1}, get_a {a = true, b = 1})", "(num, truth)"),
                ("(fn get_a -> (get_a {a = 1}, get_a {a = true, b = 1})) (fn r -> r.a)", None),
                ("rec f = fn x -> g x and g = fn x -> f x in (f, g)", "(?0 -> ?1, ?2 -> ?3)"), ("rec f = fn x -> (f 1, f true) in f", None),
                ("rec f = fn x -> f in f", None), ("rec f = fn x -> let h = f in (h 1) + x in f", "num -> num"), ("rec f = fn x -> x in (f 1, f true)", "(num, truth)"),
                ("fn x -> let y = x in (y + 1, y)", "num -> (num, num)"), ("fn x -> let f = fn z -> (x, z) in (f 1, f true)", "?0 -> ((?0, num), (?0, truth))"),
                ("fn x -> let f = fn z -> x z in (f 1, f true)", None), ("match Nil with | Cons (x, _) -> x end", "?0"), ("fn o -> match o with | Some x -> x | No -> 1 end", "Opt num -> num"),
                ("match (fn x -> x) with | i -> (i 1, i true) end", None), ("let i = match 1 with | _ -> fn x -> x end in (i 1, i true)", None),
                ("let i = (fn x -> x, 1) in match i with | (j, _) -> j end", "?0 -> ?0"), ("let t = Some (fn x -> x) in (t, t)", "(Opt (?0 -> ?0), Opt (?1 -> ?1))"),
                ("let t = Some (get (new (fn x -> x))) in (t, t)", "(Opt (?0 -> ?0), Opt (?0 -> ?0))"), ("fn f -> Fun f", "(?0 -> ?0) -> Fun ?0"), ("Fun (fn x -> 1)", "Fun num"),
                ("fn x -> fn y -> let p = (x, y) in let q = fn z -> p in (q 1, q true)", "?0 -> ?1 -> ((?0, ?1), (?0, ?1))"), ("tell (1 + 2)", "()"), ("1 = true", None),
                ("if 1 then 1 else 1", None), ("get 1", None), ("put (new 1) true", None), ("fn c -> put c (get c)", "cell ?0 -> ()"), ("1 1", None), ("()", "()"), ("More (Some End)", "Odd")]:
            program = program_of(text)
            expected = None if told is None else scheme(told)
            before = frozen(program)
            self.assertEqual(scheme_of_program(program), expected, text)
            self.assertEqual(frozen(program), before)
            self.assertIs(has_derivation(program, places_of(program[1])), told is not None)
            if expected is not None:
                self.assertIs(has_scheme(program, expected), True)

    def test_has_scheme(self):
        for text, some, told in [
                ("fn x -> x", "num -> num", True), ("fn x -> x", "?0 -> ?0", True), ("fn x -> x", "?0 -> ?1", False), ("fn x -> x", "?0", False),
                ("fn x -> x", "num -> truth", False), ("1", "num", True), ("1", "?0", False), ("fn r -> r.a", "{a: ?0 | ?1} -> ?0", True),
                ("fn r -> r.a", "{a: num} -> num", True), ("fn r -> r.a", "{a: num, b: ?0} -> num", True), ("fn r -> r.a", "{b: num} -> num", False),
                ("fn r -> r.a", "{| ?0} -> num", False), ("1 1", "num", False), ("Nil", "List (List ?0)", True), ("Nil", "List num num", False),
                ("{a = 1}", "{a: num}", True), ("{a = 1}", "{a: num | ?0}", False), ("{a = 1}", "{| ?0}", False), ("()", "(num, num)", False)]:
            self.assertIs(has_scheme(program_of(text), scheme(some)), told, (text, some))

    def test_random_schemes(self):
        chance = random.Random(33)
        met = {True: 0, False: 0}
        for _ in range(300):
            program = mixed_program(chance, 3)
            told = scheme_of_program(program)
            some = scheme_of(some_kind(chance, 2))
            if told is None:
                self.assertIs(has_scheme(program, some), False)
                continue
            self.assertTrue(is_scheme(told))
            sub = {index: ((), None) if index in rests_of(told[1]) else some_kind(chance, 1) for index in range(told[0]) if chance.randrange(2)}
            near = scheme_of(put(told[1], sub))
            for one in (some, near, told, scheme("?0"), scheme("?0 -> ?1"), scheme("?0 -> ?0")):
                right = is_more_general(told, one)
                self.assertIs(has_scheme(program, one), right)
                met[right] += 1
            self.assertIs(is_instance(told, near[1]), True)
        self.assertGreater(min(met.values()), 100)


class TooGreatTest(unittest.TestCase):
    def great(self, call, *arguments):
        before = frozen(arguments)
        with self.assertRaises(errors.TooGreat) as caught:
            call(*arguments)
        self.assertEqual(caught.exception.most, 2000)
        self.assertEqual(frozen(arguments), before)

    def test_parts(self):
        # A tuple of n nums, each pair of which is bound ahead.
        for many, fine in [(9, True), (10, False), (14, False)]:
            program = ((), ("let", "x0", ("num", 1), doubled(many, NAME(f"x{many}"))))
            places = places_of(program[1])
            self.assertIs(has_derivation(program, places), True)
            self.assertIs(has_scheme(program, scheme("num")), False)
            if fine:
                self.assertEqual(scheme_of_program(program)[0], 0)
                self.assertIs(is_derivation(program, places, derivation_of(program, places)), True)
            else:
                self.great(derivation_of, program, places)
                self.great(scheme_of_program, program)

    def test_just_the_bound(self):
        """A tuple with just 2,000 parts, and with one more."""
        for lots, fine in [((489,), True), ((490,), False)]:
            wide = lambda many: ("tuple", (("num", 1),) * many)
            rest = ("tuple", (NAME("y"),) * 3 + (wide(lots[0]),))
            program = ((), ("let", "x", wide(4), ("let", "y", ("tuple", (NAME("x"),) * 100), rest)))
            size = 1 + 3 * (1 + 100 * 5) + 1 + lots[0]
            self.assertEqual(size, 1994 if fine else 1995)
            self.assertEqual(scheme_of_program(program)[0], 0)
        for more, fine in [(5, True), (6, True), (7, False)]:
            rest = ("tuple", (NAME("y"),) * 3 + (("tuple", (("num", 1),) * 489),) + (("num", 1),) * more)
            program = ((), ("let", "x", ("tuple", (("num", 1),) * 4), ("let", "y", ("tuple", (NAME("x"),) * 100), rest)))
            if fine:
                self.assertEqual(scheme_of_program(program)[0], 0)
            else:
                self.great(scheme_of_program, program)

    def test_depth(self):
        for many, fine in [(99, True), (100, False)]:
            term = ("new", NAME(f"c{many - 1}"))
            for at in range(many - 1, 0, -1):
                term = ("let", f"c{at}", ("new", NAME(f"c{at - 1}")), term)
            program = ((), ("let", "c0", ("num", 1), term))
            if fine:
                kind = scheme_of_program(program)[1]
                for _ in range(99):
                    kind = kind[1]
                self.assertEqual(kind, NUM)
            else:
                self.assertIs(has_derivation(program, places_of(program[1])), True)
                self.great(scheme_of_program, program)

    def test_another_place(self):
        great = doubled(12, NAME("x12"))
        hidden = ((), ("match", ("let", "x0", ("num", 1), great), ((("any",), ("num", 5)),)))
        self.great(scheme_of_program, hidden)
        self.great(derivation_of, hidden, places_of(hidden[1]))
        self.assertIs(has_scheme(hidden, scheme("num")), True)
        self.assertIs(has_scheme(hidden, scheme("truth")), False)
        # A lot without the greatest of them has kinds that are small enough.
        few = tuple(place for place in places_of(hidden[1]) if len(place) < 8)
        self.assertIs(is_derivation(hidden, few, derivation_of(hidden, few)), True)

    def test_none_ahead_of_too_great(self):
        bad = ("op", "+", ("num", 1), ("truth", True))
        program = ((), ("let", "x0", ("num", 1), doubled(14, ("tuple", (NAME("x14"), bad)))))
        self.assertIsNone(derivation_of(program, places_of(program[1])))
        self.assertIsNone(scheme_of_program(program))
        self.assertIs(has_scheme(program, scheme("num")), False)
        self.assertIs(has_derivation(program, places_of(program[1])), False)
        ahead = ((), ("tuple", (bad, ("let", "x0", ("num", 1), doubled(14, NAME("x14"))))))
        self.assertIsNone(derivation_of(ahead, places_of(ahead[1])))

    def test_kinds_that_double_by_variables(self):
        program = ((), ("let", "x0", ("fn", "x", NAME("x")), doubled(11, NAME("x11"))))
        self.assertIs(has_derivation(program, places_of(program[1])), True)
        self.great(scheme_of_program, program)
        small = ((), ("let", "x0", ("fn", "x", NAME("x")), doubled(8, NAME("x8"))))
        self.assertEqual(scheme_of_program(small)[0], 256)
        calls = ((), ("let", "x0", ("fn", "x", ("tuple", (NAME("x"),) * 2)), calling(12)))
        self.assertIs(has_derivation(calls, places_of(calls[1])), True)
        self.great(scheme_of_program, calls)
        self.assertIs(has_scheme(calls, scheme("num -> ?0")), False)


def calling(many, last=None, times=2):
    """Lets of functions, each of which calls the one ahead of it twice, or more often, and last behind them."""
    term = last or NAME(f"x{many}")
    for at in range(many, 0, -1):
        body = NAME("x")
        for _ in range(times):
            body = ("call", NAME(f"x{at - 1}"), body)
        term = ("let", f"x{at}", ("fn", "x", body), term)
    return term


class AtOnceTest(unittest.TestCase):
    """Kinds that would be far more if all that is shared in them were written out."""

    def told(self, many, last, times=2):
        program = ((), ("let", "x0", ("fn", "x", ("tuple", (NAME("x"),) * 2)), calling(many, last, times)))
        self.assertTrue(is_program(program))
        return has_derivation(program, places_of(program[1]))

    def test_calls(self):
        use = lambda many, one: ("call", NAME(f"x{many}"), one)
        for many, times in [(4, 2), (15, 2), (30, 2), (14, 3), (12, 5)]:
            both = lambda one, other: ("if", ("truth", True), use(many, one), use(many, other))
            self.assertIs(self.told(many, both(("num", 1), ("num", 2)), times), True)
            self.assertIs(self.told(many, both(("num", 1), ("truth", True)), times), False)
            self.assertIs(self.told(many, ("op", "+", ("num", 1), use(many, ("num", 1))), times), False)
            pair = ("tuple", (("bind", "a"), ("bind", "b")))
            look = lambda one: ("match", use(many, ("num", 1)), ((("tuple", (pair, ("any",))), one),))
            self.assertIs(self.told(many, look(("if", ("truth", True), NAME("a"), NAME("b"))), times), True)
            self.assertIs(self.told(many, look(("op", "+", NAME("a"), NAME("b"))), times), False)
            # A function whose argument stands in what it tells of it.
            ring = ("fn", "z", ("if", ("truth", True), NAME("z"), use(many, NAME("z"))))
            self.assertIs(self.told(many, ring, times), False)
            self.assertIs(self.told(many, ("fn", "z", use(many, NAME("z"))), times), True)

    def test_pairs(self):
        for many in (4, 17, 40):
            lets = lambda last: ((), ("let", "x0", ("fn", "x", NAME("x")), doubled(many, last)))
            first, second = ("bind", "a"), ("bind", "b")
            for last, right in [(NAME(f"x{many}"), True), (("call", NAME(f"x{many}"), ("num", 1)), False),
                                (("match", NAME(f"x{many}"), ((("tuple", (first, second)), ("tuple", (NAME("a"), NAME("b")))),)), True),
                                (("if", ("truth", True), NAME(f"x{many}"), NAME(f"x{many}")), True),
                                (("if", ("truth", True), NAME(f"x{many}"), NAME(f"x{many - 1}")), False)]:
                program = lets(last)
                self.assertIs(has_derivation(program, places_of(program[1])), right, last)
            self.assertIs(has_scheme(lets(NAME(f"x{many}")), scheme("?0 -> ?0")), False)
            self.assertIs(has_scheme(lets(NAME("x1")), scheme("(num -> num, truth -> truth)")), True)
            self.assertIs(has_scheme(lets(NAME("x2")), scheme("((?0 -> ?0, ?1 -> ?1), (?2 -> ?2, ?2 -> ?2))")), True)
            self.assertIs(has_scheme(lets(NAME("x2")), scheme("((?0 -> ?0, ?1 -> ?1), (?2 -> ?2, ?2 -> ?1))")), False)

    def test_records_within_functions(self):
        """Rests that are copied, within functions whose argument is not copied."""
        text = ("fn z -> let f = fn r -> (r.a, z, fn s -> if true then s.b else z) in let g = fn r -> (f r, f r) in let h = fn r -> (g r, g r) in "
                "(h {a = 1}, h {a = true, c = z}, z + 1)")
        program = program_of(text)
        found = derivation_of(program, places_of(program[1]))
        kinds = kinds_of(program, places_of(program[1]))
        self.assertEqual(alike_text(list(found[0].values())), alike_text(list(kinds.values())))
        self.assertIs(is_derivation(program, places_of(program[1]), found), True)


def settled_lets(term):
    return [one for one in (part_at(term, place) for place in places_of(term)) if one[0] == "let" and is_settled(one[2])]


def spread_once_more(program):
    """The program spread out, once more, by names that are never hidden."""
    count = itertools.count()

    def go(term, names):
        if term[0] == "name":
            return names[term[1]]
        if term[0] == "fn":
            new = f"w{next(count)}"
            return ("fn", new, go(term[2], {**names, term[1]: NAME(new)}))
        if term[0] == "rec":
            new = {name: f"w{next(count)}" for name, _ in term[1]}
            mine = {**names, **{name: NAME(new[name]) for name in new}}
            return ("rec", tuple((new[name], go(one, mine)) for name, one in term[1]), go(term[2], mine))
        if term[0] == "match":
            rows = []
            one = go(term[1], names)
            for pattern, body in term[2]:
                new = {}
                pattern = renamed(pattern, new, count)
                rows.append((pattern, go(body, {**names, **{name: NAME(new[name]) for name in new}})))
            return ("match", one, tuple(rows))
        if term[0] == "let":
            one = go(term[2], names)
            if is_settled(term[2]):
                rest = go(term[3], {**names, term[1]: one})
                if term[1] not in free_names(term[3]):
                    row = (("tuple", (("any",), ("bind", "x"))), NAME("x"))
                    return ("match", ("tuple", (one, rest)), (row,))
                return rest
            new = f"w{next(count)}"
            rest = go(term[3], {**names, term[1]: NAME(new)})
            return ("match", one, ((("bind", new), rest),)) if is_settled(one) else ("let", new, one, rest)
        return with_parts(term, tuple(go(part, names) for part in parts_of(term)))

    return (program[0], go(program[1], {}))


def renamed(pattern, new, count):
    if pattern[0] == "bind":
        new[pattern[1]] = f"w{next(count)}"
        return ("bind", new[pattern[1]])
    if pattern[0] == "tuple":
        return ("tuple", tuple(renamed(part, new, count) for part in pattern[1]))
    if pattern[0] == "record":
        return ("record", tuple((label, renamed(part, new, count)) for label, part in pattern[1]))
    if pattern[0] == "make" and pattern[2] is not None:
        return ("make", pattern[1], renamed(pattern[2], new, count))
    return pattern


class SpreadOutTest(unittest.TestCase):
    def spread(self, text, told):
        self.assertTrue(are_alike(spread_out(program_of(text))[1], program_of(told)[1]), text)

    def test_spread_out(self):
        for text, told in [
                ("1", "1"), ("let x = 1 in x", "1"), ("let x = 1 in (x, x, x)", "(1, 1, 1)"), ("let x = 1 in 2", "match (1, 2) with | (_, y) -> y end"),
                ("let x = new 1 in x", "let x = new 1 in x"), ("let x = fn y -> y in x x", "(fn y -> y) (fn y -> y)"),
                ("let x = 1 in let y = (x, x) in (y, x)", "((1, 1), 1)"), ("let x = let y = 1 in y in x", "match 1 with | x -> x end"),
                ("let x = (1, let y = 2 in y) in (x, x)", "match (1, 2) with | x -> (x, x) end"), ("let x = (new 1, let y = 2 in y) in x", "let x = (new 1, 2) in x"),
                ("fn z -> let x = z in fn z -> (x, z)", "fn z -> fn y -> (z, y)"), ("fn z -> let x = fn y -> z in fn y -> fn z -> x y", "fn a -> fn b -> fn c -> (fn d -> a) b"),
                ("let x = 1 in let x = (x, x) in x", "(1, 1)"), ("let x = 1 in fn x -> x", "match (1, fn x -> x) with | (_, y) -> y end"),
                ("let x = 1 in let y = x in 2", "match (1, 2) with | (_, y) -> y end"), ("rec f = fn x -> f x in let g = f in g 1", "rec f = fn x -> f x in f 1"),
                ("let f = fn x -> x in rec g = fn y -> f y in g", "rec g = fn y -> (fn x -> x) y in g"), ("let M.x = 1 in (M.x, let M.y = M.x in M.y)", "(1, 1)"),
                ("match 1 with | x -> let y = x in match 2 with | x -> (x, y) end end", "match 1 with | x -> match 2 with | z -> (z, x) end end"),
                ("let x = let y = 1 in 2 in x", "let x = match (1, 2) with | (_, y) -> y end in x"), ("let x = Some (fn y -> y) in let z = {a = x} in z.a", "{a = Some (fn y -> y)}.a"),
                ("let x = fn y -> let z = y in (z, z) in x", "fn y -> (y, y)"), ("let x = let y = 1 in y in 2", "match 1 with | x -> 2 end")]:
            self.spread(text, told)

    def test_random_programs(self):
        chance = random.Random(34)
        lets = none = 0
        for turn in range(500):
            program = mixed_program(chance, 3) if turn % 2 else random_program(chance, 3)
            before = frozen(program)
            try:
                told = spread_out(program)
            except errors.TooMany:
                continue
            self.assertEqual(frozen(program), before)
            self.assertTrue(is_program(told))
            self.assertEqual(settled_lets(told[1]), [])
            self.assertTrue(are_alike(told[1], spread_once_more(program)[1]))
            self.assertEqual(scheme_of_program(told), scheme_of_program(program))
            lets += settled_lets(program[1]) != []
            none += scheme_of_program(program) is None
        self.assertGreater(min(lets, none), 50)

    def test_too_many(self):
        # 7 lets of pairs make 2 ** 8 - 1 places for the last one.
        twice = lambda many, last: ("let", "x0", ("num", 1), doubled(many, last))
        for many, fine in [(9, True), (10, False), (19, False)]:
            program = ((), twice(many, NAME(f"x{many}")))
            if fine:
                self.assertEqual(size_of(spread_out(program)[1]), 2 ** (many + 1) - 1)
            else:
                with self.assertRaises(errors.TooMany) as caught:
                    spread_out(program)
                self.assertEqual(caught.exception.most, 2000)
        # 1023 + 511 + 255 + 127 + 63 + 15 + 3, one for the tuple and two for nums are 2,000.
        names = [NAME(f"x{at}") for at in (9, 8, 7, 6, 5, 3, 1)]
        for more, fine in [(1, True), (2, True), (3, False)]:
            program = ((), twice(9, ("tuple", tuple(names) + (("num", 1),) * more)))
            if fine:
                self.assertEqual(size_of(spread_out(program)[1]), 1998 + more)
            else:
                with self.assertRaises(errors.TooMany):
                    spread_out(program)
        # A let of a name that stands nowhere becomes a match, a tuple and a name; names of functions are places, too.
        for more, fine in [(12, True), (13, False)]:
            used = ("fn", "z", ("tuple", tuple(names[:5]) + (names[6],) + (("name", "z"),) * more))
            program = ((), twice(9, ("let", "y", ("num", 1), used)))
            if fine:
                self.assertEqual(size_of(spread_out(program)[1]), 2000)
            else:
                with self.assertRaises(errors.TooMany):
                    spread_out(program)
        unused = ((), twice(9, ("let", "y", ("tuple", tuple(names)), ("num", 1))))
        with self.assertRaises(errors.TooMany):
            spread_out(unused)
        unused = ((), twice(9, ("let", "y", ("tuple", tuple(names[:-1])), ("num", 1))))
        self.assertEqual(size_of(spread_out(unused)[1]), 1994 + 1 + 4)

    def test_it_may_be_passed_in_again(self):
        program = program_of("let a = fn x -> (x, x) in let b = fn x -> a (a x) in let c = fn x -> b (b x) in c 1")
        told = spread_out(program)
        self.assertEqual(spread_out(told)[0], DECLARATIONS)
        self.assertTrue(are_alike(spread_out(told)[1], told[1]))
        self.assertEqual(scheme_of_program(told), scheme_of_program(program))


if __name__ == "__main__":
    unittest.main()
