"""[27] to [30]: binders, makers, what patterns suit, derivations, and who judges them."""

import random
import unittest

from kindsworn import errors
from kindsworn.checker import derivation_of
from kindsworn.derivations import (
    binder_of, broken_rules, is_derivation, maker_of, pattern_kinds, specialised)
from kindsworn.forms import is_kind, is_program
from kindsworn.kinds import are_fit, variables_in
from kindsworn.reader import read_kind, read_pattern, read_program, read_term
from kindsworn.trees import bound_at, part_at, places_of
from tests.anything import STRANGE, any_values, frozen, spoilt
from tests.plain import PlainJudge, broken, put, suits
from tests.samples import random_kind, random_term
from tests.typed import DECLARATIONS, Maker, mixed_program, random_program, some_kind

NUM, TRUTH, UNIT = ("num",), ("truth",), ("tuple", ())
A, B = ("var", 0), ("var", 1)


def program_of(text):
    program = read_program(text)
    assert is_program(program)
    return program


def kinds_told(*texts):
    return [read_kind(text) for text in texts]


class BindersTest(unittest.TestCase):
    def test_binder_of(self):
        for text, place, told in [
                ("fn x -> x", (0,), ()), ("fn x -> fn x -> x", (0, 0), (0,)), ("fn x -> fn y -> x", (0, 0), ()), ("x", (), None),
                ("let x = x in x", (0,), None), ("let x = 1 in x", (1,), ()), ("let x = 1 in let x = x in x", (1, 0), ()),
                ("let x = 1 in let x = x in x", (1, 1), (1,)), ("rec f = fn x -> f and g = fn x -> x in g", (0, 0), ()),
                ("rec f = fn x -> f and g = fn x -> x in g", (1, 0), (1,)), ("rec f = fn x -> f and g = fn x -> x in g", (2,), ()),
                ("rec f = fn f -> f in f", (0, 0), (0,)), ("match x with | (x, y) -> x | z -> x end", (0,), None),
                ("match x with | (x, y) -> x | z -> x end", (1,), ()), ("match x with | (x, y) -> x | z -> x end", (2,), None),
                ("match 1 with | {a = x} -> match 2 with | Some y -> x end end", (1, 1), ()),
                ("match 1 with | {a = x} -> match 2 with | Some x -> x end end", (1, 1), (1,)),
                ("fn x -> let x = x in x", (0, 0), ()), ("let M.x = 1 in M.x", (1,), ())]:
            self.assertEqual(binder_of(read_term(text), place), told, (text, place))

    def test_random_terms(self):
        chance = random.Random(27)
        free = 0
        for _ in range(200):
            term = random_term(chance, 5)
            judge = PlainJudge(((), term), (), {}, {})
            for place in places_of(term):
                one = part_at(term, place)
                if one[0] == "name":
                    if one[1] in bound_at(term, place):
                        self.assertEqual(binder_of(term, place), judge.binder(one[1], place)[0])
                    else:
                        self.assertIsNone(binder_of(term, place))
                        free += 1
        self.assertGreater(free, 50)

    def test_maker_of(self):
        self.assertEqual(maker_of(DECLARATIONS, "Nil"), ("List", 1, None))
        self.assertEqual(maker_of(DECLARATIONS, "Cons"), ("List", 1, ("tuple", (A, ("of", "List", (A,))))))
        self.assertEqual(maker_of(DECLARATIONS, "Right"), ("Two", 2, B))
        self.assertEqual(maker_of((("M.A", 0, (("M.A", None),)),), "M.A"), ("M.A", 0, None))


class PatternKindsTest(unittest.TestCase):
    def test_pattern_kinds(self):
        for pattern, kind, told in [
                ("_", "?0", {}), ("x", "?0", {"x": A}), ("1", "num", {}), ("1", "truth", None), ("1", "?0", None), ("true", "truth", {}),
                ("false", "num", None), ("()", "()", {}), ("()", "(num, num)", None), ("(y, x)", "(num, truth)", {"x": TRUTH, "y": NUM}),
                ("(x, y)", "(num, num, num)", None), ("(x, y, z)", "(num, num)", None), ("(x, y)", "?0", None), ("(x, 1)", "(num, truth)", None),
                ("{a = x}", "{a: num, b: truth}", {"x": NUM}), ("{a = x}", "{a: ?0 | ?1}", {"x": A}), ("{b = x}", "{a: ?0 | ?1}", None),
                ("{a = x, b = y}", "{a: num}", None), ("{a = 1}", "{a: truth}", None), ("{a = x}", "num", None), ("{a = x}", "(num, num)", None),
                ("Nil", "List num", {}), ("Nil", "Opt num", None), ("Nil", "List num num", None), ("Nil", "List", None), ("Nil", "?0", None),
                ("Cons (x, t)", "List truth", {"t": ("of", "List", (TRUTH,)), "x": TRUTH}), ("Cons (1, t)", "List truth", None),
                ("Cons (x, Cons (y, _))", "List num", {"x": NUM, "y": NUM}), ("Cons x", "List ?7", {"x": read_kind("(?7, List ?7)")}),
                ("Right (x, y)", "Two num (num, ?3)", {"x": NUM, "y": ("var", 3)}), ("Left (x, y)", "Two num (num, ?3)", None),
                ("Fun f", "Fun (List ?0)", {"f": read_kind("List ?0 -> List ?0")}), ("Gone", "List num", None), ("More No", "Odd", {}),
                ("More (Some End)", "Odd", {}), ("More (Some (Some _))", "Odd", None)]:
            told_kinds = pattern_kinds(DECLARATIONS, read_pattern(pattern), read_kind(kind))
            self.assertEqual(told_kinds, told, (pattern, kind))
            if told is not None:
                self.assertEqual(list(told_kinds), sorted(told))

    def test_random_ones(self):
        chance = random.Random(28)
        some = none = 0
        for _ in range(2000):
            kind, names = some_kind(chance, 3), {}
            pattern = Maker(chance, 0).pattern(kind, names, 4)
            if chance.randrange(2):
                kind = some_kind(chance, 2)
            before = frozen((DECLARATIONS, pattern, kind))
            expected = {}
            if not suits(DECLARATIONS, pattern, kind, expected):
                expected = None
            found = pattern_kinds(DECLARATIONS, pattern, kind)
            self.assertEqual(found, expected)
            self.assertEqual(frozen((DECLARATIONS, pattern, kind)), before)
            if found is None:
                none += 1
            else:
                some += 1
                self.assertEqual(list(found), sorted(found))
        self.assertGreater(min(some, none), 300)

    def test_too_great(self):
        deep = program_of("kind Deep ?0 = Stop ?0 | Down (Deep (?0, ?0)) give 1")[0]
        pattern = lambda many, last: last if many == 0 else ("make", "Down", pattern(many - 1, last))
        stop = lambda part: ("make", "Stop", part)
        kind = ("of", "Deep", (NUM,))
        self.assertEqual(pattern_kinds(deep, pattern(7, stop(("bind", "x"))), kind)["x"][0], "tuple")
        self.assertEqual(list(pattern_kinds(deep, pattern(9, stop(("bind", "x"))), kind)), ["x"])
        for many in (10, 11, 29):
            with self.assertRaises(errors.TooGreat) as caught:
                pattern_kinds(deep, pattern(many, stop(("bind", "x"))), kind)
            self.assertEqual(caught.exception.most, 2000)
            self.assertEqual(pattern_kinds(deep, pattern(many, stop(("any",))), kind), {})
            self.assertIsNone(pattern_kinds(deep, pattern(many, stop(("num", 1))), kind))
            both = ("tuple", (pattern(many, stop(("bind", "x"))), ("num", 1)))
            self.assertIsNone(pattern_kinds(deep, both, ("tuple", (kind, TRUTH))))
        half = ("of", "A", (NUM,) * 998)
        self.assertEqual(len(pattern_kinds(deep, pattern(1, ("bind", "x")), ("of", "Deep", (half,)))), 1)
        with self.assertRaises(errors.TooGreat):
            pattern_kinds(deep, pattern(1, ("bind", "x")), ("of", "Deep", (("of", "A", (NUM,) * 999),)))
        cells = lambda many: NUM if many == 0 else ("cell", cells(many - 1))
        one = program_of("kind Box ?0 = Box (cell (cell ?0)) give 1")[0]
        self.assertEqual(pattern_kinds(one, read_pattern("Box x"), ("of", "Box", (cells(97),)))["x"], cells(99))
        with self.assertRaises(errors.TooGreat):
            pattern_kinds(one, read_pattern("Box x"), ("of", "Box", (cells(98),)))


# A program, the kinds of all its places, what is general, and whether all rules hold.
RULES = [
    ("1", ["num"], {}, []), ("1", ["truth"], {}, [()]), ("true", ["truth"], {}, []), ("true", ["num"], {}, [()]), ("1", ["?0"], {}, [()]),
    ("fn x -> 1", ["num -> num", "num"], {}, []), ("fn x -> 1", ["?0 -> num", "num"], {}, []), ("fn x -> 1", ["num -> truth", "num"], {}, [()]),
    ("fn x -> 1", ["num", "num"], {}, [()]), ("fn x -> x", ["num", "num"], {}, [(), (0,)]), ("fn x -> x", ["?0 -> ?0", "?0"], {}, []),
    ("fn x -> x", ["?0 -> ?1", "?1"], {}, [(0,)]), ("fn x -> x", ["?0 -> ?1", "?0"], {}, [()]), ("fn x -> fn x -> x", ["num -> ?0 -> ?0", "?0 -> ?0", "?0"], {}, []),
    ("(fn x -> 1) true", ["num", "truth -> num", "num", "truth"], {}, []), ("(fn x -> 1) true", ["num", "num -> num", "num", "truth"], {}, [()]),
    ("(fn x -> 1) true", ["truth", "truth -> num", "num", "truth"], {}, [()]),
    ("if true then 1 else 2", ["num", "truth", "num", "num"], {}, []), ("if 1 then 1 else 2", ["num", "num", "num", "num"], {}, [()]),
    ("if true then 1 else true", ["num", "truth", "num", "truth"], {}, [()]), ("if true then true else 1", ["num", "truth", "truth", "num"], {}, [()]),
    ("()", ["()"], {}, []), ("()", ["num"], {}, [()]), ("(1, true)", ["(num, truth)", "num", "truth"], {}, []),
    ("(1, true)", ["(truth, num)", "num", "truth"], {}, [()]), ("(1, true)", ["(num, truth, num)", "num", "truth"], {}, [()]),
    ("{a = 1, b = true}", ["{a: num, b: truth}", "num", "truth"], {}, []), ("{a = 1, b = true}", ["{a: num, b: truth | ?0}", "num", "truth"], {}, [()]),
    ("{a = 1}", ["{b: num}", "num"], {}, [()]), ("{a = 1}", ["{a: truth}", "num"], {}, [()]), ("{a = 1}", ["{a: num, b: num}", "num"], {}, [()]),
    ("{a = 1}.a", ["num", "{a: num}", "num"], {}, []), ("{a = 1}.a", ["truth", "{a: num}", "num"], {}, [()]), ("{a = 1}.b", ["num", "{a: num}", "num"], {}, [()]),
    ("(fn r -> r.a)", ["{a: num | ?0} -> num", "num", "{a: num | ?0}"], {}, []), ("(fn r -> r.a)", ["num -> num", "num", "num"], {}, [(0,)]),
    ("Nil", ["List num"], {}, []), ("Nil", ["List ?0"], {}, []), ("Nil", ["List num num"], {}, [()]), ("Nil", ["List"], {}, [()]), ("Nil", ["Opt num"], {}, [()]),
    ("Some 1", ["Opt num", "num"], {}, []), ("Some 1", ["Opt truth", "num"], {}, [()]), ("Right 1", ["Two ?0 num", "num"], {}, []), ("Right 1", ["Two num ?0", "num"], {}, [()]),
    ("Some 1", ["num", "num"], {}, [()]), ("End", ["Odd"], {}, []), ("Fun (fn x -> x)", ["Fun num", "num -> num", "num"], {}, []),
    ("Fun (fn x -> 1)", ["Fun truth", "truth -> num", "num"], {}, [()]),
    ("match 1 with | 0 -> true | x -> x = x end", ["truth", "num", "truth", "truth", "num", "num"], {}, []),
    ("match 1 with | 0 -> true | x -> x end", ["truth", "num", "truth", "truth"], {}, [(2,)]),
    ("match 1 with | 0 -> true | x -> x end", ["num", "num", "truth", "num"], {}, [()]), ("match 1 with | 0 -> 1 | _ -> true end", ["num", "num", "num", "truth"], {}, [()]),
    ("match 1 with | true -> 1 end", ["num", "num", "num"], {}, [()]), ("match 1 with | (x, y) -> x end", ["num", "num", "num"], {}, [(), (1,)]),
    ("match (1, true) with | (x, y) -> y end", ["truth", "(num, truth)", "num", "truth", "truth"], {}, []),
    ("match (1, true) with | (x, y) -> y | _ -> true | (x, 1) -> x end", ["truth", "(num, truth)", "num", "truth", "truth", "truth", "truth"], {}, [(), (3,)]),
    ("new 1", ["cell num", "num"], {}, []), ("new 1", ["cell truth", "num"], {}, [()]), ("new 1", ["num", "num"], {}, [()]),
    ("get (new 1)", ["num", "cell num", "num"], {}, []), ("get (new 1)", ["truth", "cell num", "num"], {}, [()]), ("get 1", ["num", "num"], {}, [()]),
    ("put (new 1) 2", ["()", "cell num", "num", "num"], {}, []), ("put (new 1) 2", ["num", "cell num", "num", "num"], {}, [()]),
    ("put (new 1) true", ["()", "cell num", "num", "truth"], {}, [()]), ("put 1 2", ["()", "num", "num"], {}, [()]),
    ("1 + 2", ["num", "num", "num"], {}, []), ("1 + 2", ["truth", "num", "num"], {}, [()]), ("1 < 2", ["truth", "num", "num"], {}, []),
    ("1 = 2", ["truth", "num", "num"], {}, []), ("1 = 2", ["num", "num", "num"], {}, [()]), ("1 * true", ["num", "num", "truth"], {}, [()]),
    ("true - 1", ["num", "truth", "num"], {}, [()]), ("tell 1", ["()", "num"], {}, []), ("tell 1", ["num", "num"], {}, [()]), ("tell true", ["()", "truth"], {}, [()]),
    # A let whose one is not settled, and one whose one is.
    ("let x = new 1 in x", ["cell num", "cell num", "num", "cell num"], {}, []), ("let x = new 1 in x", ["cell num", "cell num", "num", "cell truth"], {}, [(), (1,)]),
    ("let x = get (new (fn y -> y)) in x", ["num -> num", "?0 -> ?0", "cell (?0 -> ?0)", "?0 -> ?0", "?0", "num -> num"], {}, [(1,)]),
    ("let x = fn y -> y in x", ["num -> num", "?0 -> ?0", "?0", "num -> num"], {(): (0,)}, []),
    ("let x = fn y -> y in x", ["num -> num", "?0 -> ?0", "?0", "num -> num"], {(): ()}, [(1,)]),
    ("let x = fn y -> y in x", ["num -> truth", "?0 -> ?0", "?0", "num -> truth"], {(): (0,)}, [(1,)]),
    ("let x = fn y -> y in x", ["?0 -> ?0", "?0 -> ?0", "?0", "?0 -> ?0"], {(): ()}, []), ("let x = fn y -> y in x", ["?1 -> ?1", "?0 -> ?0", "?0", "?1 -> ?1"], {(): (1,)}, [(1,)]),
    ("let x = fn y -> y in 1", ["truth", "?0 -> ?0", "?0", "num"], {(): (0,)}, [()]), ("let x = 1 in x", ["num", "num", "num"], {(): ()}, []),
    ("let x = fn r -> r.a in x", ["{a: num, b: num} -> num", "{a: ?0 | ?1} -> ?0", "?0", "{a: ?0 | ?1}", "{a: num, b: num} -> num"], {(): (0, 1)}, []),
    ("let x = fn r -> r.a in x", ["{a: num, b: num} -> num", "{a: ?0 | ?1} -> ?0", "?0", "{a: ?0 | ?1}", "{a: num, b: num} -> num"], {(): (0,)}, [(1,)]),
    # Outer kinds.
    ("fn z -> let x = fn y -> z in x", ["?0 -> num -> ?0", "num -> ?0", "?1 -> ?0", "?0", "num -> ?0"], {(0,): (1,)}, []),
    ("fn z -> let x = fn y -> z in x", ["?0 -> num -> ?0", "num -> ?0", "?1 -> ?0", "?0", "num -> ?0"], {(0,): (0, 1)}, [(0,)]),
    ("fn z -> let x = fn y -> z in x", ["?0 -> num -> num", "num -> num", "?1 -> ?0", "?0", "num -> num"], {(0,): (0, 1)}, [(0,)]),
    ("fn z -> let x = fn y -> y in x", ["?0 -> num -> num", "num -> num", "?1 -> ?1", "?1", "num -> num"], {(0,): (0, 1)}, []),
    ("fn z -> let x = (z, z) in x", ["?0 -> (?0, ?0)", "(?0, ?0)", "(?0, ?0)", "?0", "?0", "(?0, ?0)"], {(0,): (0,)}, [(0,)]),
    ("match new () with | z -> let x = z in x end", ["cell ()", "cell ()", "()", "cell ()", "cell ()", "cell ()"], {(1,): ()}, []),
    ("let z = get (new Nil) in let x = z in x", ["List num", "List ?0", "cell (List ?0)", "List ?0", "List num", "List ?0", "List num"], {(1,): (0,)}, [(1,)]),
    ("let z = Nil in let x = z in x", ["List num", "List ?0", "List num", "List ?0", "List num"], {(): (0,), (1,): (0,)}, []),
    ("let z = Nil in let x = z in x", ["List num", "List ?0", "List num", "List ?0", "List num"], {(): (), (1,): (0,)}, [(1,)]),
    ("let z = Nil in let x = z in x", ["List num", "List ?0", "List num", "List ?1", "List num"], {(): (0,), (1,): (1,)}, []),
    ("rec f = fn y -> let x = f in y in f", ["num -> num", "?0 -> ?0", "?0", "?0 -> ?0", "?0", "num -> num"], {(): (0,), (0, 0): ()}, []),
    ("rec f = fn y -> let x = f in y in f", ["num -> num", "?0 -> ?0", "?0", "?0 -> ?0", "?0", "num -> num"], {(): (0,), (0, 0): (0,)}, [(0, 0)]),
    ("rec f = fn y -> y in let x = f in x", ["num -> num", "?0 -> ?0", "?0", "num -> num", "?0 -> ?0", "num -> num"], {(): (0,), (1,): (0,)}, []),
    ("rec f = fn y -> y in let x = f in x", ["num -> num", "?0 -> ?0", "?0", "num -> num", "?0 -> ?0", "num -> num"], {(): (), (1,): (0,)}, [(1,)]),
    ("rec f = fn y -> g y and g = fn y -> f y in f", ["num -> truth", "?0 -> ?1", "?1", "?0 -> ?1", "?0", "?0 -> ?1", "?1", "?0 -> ?1", "?0", "num -> truth"], {(): (0, 1)}, []),
    ("rec f = fn y -> g y and g = fn y -> f y in f", ["num -> truth", "?0 -> ?1", "?1", "?0 -> ?1", "?0", "?0 -> ?1", "?1", "?0 -> ?1", "?0", "num -> truth"], {(): (0,)}, [(2,)]),
    ("fn z -> rec f = fn y -> z in f", ["?0 -> num -> ?0", "num -> ?0", "?1 -> ?0", "?0", "num -> ?0"], {(0,): (0, 1)}, [(0,)]),
    ("fn z -> rec f = fn y -> z in f", ["?0 -> num -> ?0", "num -> ?0", "?1 -> ?0", "?0", "num -> ?0"], {(0,): (1,)}, []),
    ("fn z -> let x = fn y -> (z, z) in x", ["num", "num -> (?0, ?0)", "?1 -> (?0, ?0)", "(?0, ?0)", "?0", "?0", "num -> (?0, ?0)"], {(0,): (0, 1)}, [(), (0, 0, 0, 0), (0, 0, 0, 1)]),
]
HEAD = ("kind List ?0 = Nil | Cons (?0, List ?0) kind Opt ?0 = No | Some ?0 kind Two ?0 ?1 = Left ?0 | Right ?1 "
        "kind Odd = End | More (Opt Odd) kind Fun ?0 = Fun (?0 -> ?0) give ")


class RulesTest(unittest.TestCase):
    def test_each_rule(self):
        for text, kinds, general, told in RULES:
            program = program_of(HEAD + text)
            places = places_of(program[1])
            self.assertEqual(len(places), len(kinds), text)
            thing = (dict(zip(places, kinds_told(*kinds))), general)
            before = frozen((program, thing))
            self.assertEqual(broken_rules(program, places, thing), told, (text, kinds))
            self.assertEqual(broken(program, places, thing), told, (text, kinds))
            standing = {index for kind in thing[0].values() for index in variables_in(kind)}
            stands = {index for some in general.values() for index in some} <= standing
            self.assertIs(is_derivation(program, places, thing), stands and told == [], (text, kinds))
            for place in places:
                self.assertEqual(broken_rules(program, (place,), (thing[0], {at: general[at] for at in general if at == place})),
                                 broken(program, (place,), (thing[0], general)))
            self.assertEqual(frozen((program, thing)), before)

    def test_places_outside_the_lot(self):
        program = program_of("give fn x -> (fn y -> (x, y)) 1")
        places = places_of(program[1])
        kinds = dict(zip(places, kinds_told("num", "truth", "()", "num", "num -> num", "cell num", "num")))
        self.assertEqual(broken_rules(program, places, (kinds, {})), list(places[:6]))
        for lot, told in [((), []), (((0, 0, 0, 0),), []), (((0, 0, 0, 1),), []), (((0, 0), (0, 0, 0, 1)), [(0, 0), (0, 0, 0, 1)]),
                          (((0, 0, 0),), [(0, 0, 0)]), (((0, 1),), []), (((), (0, 0, 0, 1)), [()])]:
            self.assertEqual(broken_rules(program, lot, (kinds, {})), told)
            self.assertIs(is_derivation(program, lot, (kinds, {})), told == [])

    def test_outer_kinds_of_what_is_outside_the_lot(self):
        program = program_of("give fn z -> let x = fn y -> z in x")
        places = places_of(program[1])
        kinds = dict(zip(places, kinds_told("?0 -> num -> ?0", "num -> ?0", "?1 -> ?0", "?0", "num -> ?0")))
        general = {(0,): (0, 1)}
        self.assertEqual(broken_rules(program, places, (kinds, general)), [(0,)])
        self.assertIs(is_derivation(program, places[1:], (kinds, general)), True)
        # It is asked even where the name itself is outside.
        without = tuple(place for place in places if place != (0, 0, 0))
        self.assertEqual(broken_rules(program, without, (kinds, general)), [(0,)])
        # Where the name has no kind, nothing stands in it.
        self.assertEqual(broken_rules(program, without, ({**kinds, (): ("cell", A)}, general)), [()])

    def test_random_ones(self):
        chance = random.Random(29)
        changed = same = 0
        for turn in range(900):
            program = mixed_program(chance, 3) if turn % 2 else random_program(chance, 3)
            places = places_of(program[1])
            lot = tuple(place for place in places if chance.randrange(8)) if turn % 3 else places
            thing = derivation_of(program, lot)
            if thing is None or len(places) > 90:
                continue
            self.assertIs(is_derivation(program, lot, thing), True)
            kinds, general = dict(thing[0]), dict(thing[1])
            standing = sorted({index for kind in kinds.values() for index in variables_in(kind)})
            for _ in range(chance.randrange(3)):
                place = chance.choice(places)
                kinds[place] = chance.choice([kinds[chance.choice(places)], random_kind(chance, 1, (0, 1, 2), ()), NUM])
            for place in general:
                if standing and chance.randrange(3) == 0:
                    general[place] = tuple(sorted(chance.sample(standing, chance.randrange(min(len(standing), 4)))))
            if not are_fit(list(kinds.values())):
                continue
            told = broken(program, lot, (kinds, general))
            self.assertEqual(broken_rules(program, lot, (kinds, general)), told)
            changed += told != []
            same += told == []
        self.assertGreater(min(changed, same), 100)


class IsDerivationTest(unittest.TestCase):
    def setUp(self):
        self.program = program_of("give let i = fn x -> x in i 1")
        self.places = places_of(self.program[1])
        self.kinds = dict(zip(self.places, kinds_told("num", "?5 -> ?5", "?5", "num", "num -> num", "num")))
        self.general = {(): (5,)}

    def judged(self, thing, right, lot=None):
        before = frozen(thing)
        self.assertIs(is_derivation(self.program, self.places if lot is None else lot, thing), right, thing)
        self.assertEqual(frozen(thing), before)

    def test_form(self):
        kinds, general = self.kinds, self.general
        self.judged((kinds, general), True)
        self.judged([kinds, general], False)
        self.judged((kinds, general, None), False)
        self.judged((kinds,), False)
        self.judged((kinds, None), False)
        self.judged((None, general), False)
        self.judged((list(kinds.items()), general), False)
        self.judged((dict(list(kinds.items())[::-1]), general), True)

    def test_places(self):
        kinds, general = self.kinds, self.general
        for place in kinds:
            self.judged(({other: kinds[other] for other in kinds if other != place}, general), False)
        for other in [(7,), (-1,), "", None, 0, (0, 0, 0)]:
            self.judged(({**kinds, other: NUM}, general), False)
        truths = {tuple(bool(part) for part in place): kind for place, kind in kinds.items()}
        self.assertEqual(truths, kinds)
        self.judged((truths, general), False)
        self.judged(({**{place: kinds[place] for place in kinds if place != (1, 0)}, (True, 0): kinds[(1, 0)]}, general), False)

    def test_kinds(self):
        for place in self.places:
            for other in spoilt(self.kinds[place]):
                thing = ({**self.kinds, place: other}, self.general)
                right = is_kind(other) and are_fit([kind if at != place else other for at, kind in self.kinds.items()])
                if right:
                    standing = {index for kind in thing[0].values() for index in variables_in(kind)}
                    right = 5 in standing and broken(self.program, self.places, thing) == []
                self.judged(thing, right)
        self.judged(({**self.kinds, (0, 0): ("of", "A", (NUM,) * 2000)}, self.general), False, lot=((),))
        self.judged(({**self.kinds, (0, 0): ("of", "A", (NUM,) * 1999)}, self.general), True, lot=((),))
        self.judged(({**self.kinds, (0, 0): ("record", (), ("var", 5))}, self.general), False, lot=((),))
        self.judged(({**self.kinds, (0, 0): ("record", (), ("var", 6))}, self.general), True, lot=((),))
        self.judged(({**self.kinds, (0, 0): ("record", (("a", NUM),), ("var", 6)), (1, 1): ("record", (), ("var", 6))}, self.general),
                    False, lot=((),))

    def test_general(self):
        for general, right in [({}, False), ({(): ()}, False), ({(): (5, 5)}, False), ({(): (5, 6)}, False), ({(): [5]}, False),
                               ({(): (True,)}, False), ({(): (5,), (0,): ()}, False), ({(0,): (5,)}, False), ({(): None}, False),
                               ({(): 5}, False), ({None: (5,)}, False), ({(): (5,), (1,): ()}, False), ({(): ("5",)}, False), ([], False)]:
            self.judged((self.kinds, general), right)
        some = {**self.kinds, (0, 0): ("var", 9)}
        lot = ((), (0,), (1, 0))
        for general, right in [((5, 9), True), ((9, 5), False), ((9,), False), ((5,), False), ((5, 7), False)]:
            thing = ({**some, (0,): ("to", ("var", 5), ("var", 9)), (0, 0): ("var", 9)}, {(): general})
            self.judged(thing, right, lot=lot)
        self.judged((self.kinds, {}), True, lot=self.places[1:])
        self.judged((self.kinds, {(): (5,)}), False, lot=self.places[1:])
        self.judged((self.kinds, {}), False, lot=((),))
        self.judged((self.kinds, {(): ()}), True, lot=((),))

    def test_truths_among_variables(self):
        program = program_of("give let i = fn x -> x in i")
        kinds = dict(zip(places_of(program[1]), kinds_told("num -> num", "?1 -> ?1", "?1", "num -> num")))
        self.assertIs(is_derivation(program, places_of(program[1]), (kinds, {(): (1,)})), True)
        self.assertIs(is_derivation(program, places_of(program[1]), (kinds, {(): (True,)})), False)
        wrong = {**kinds, (0, 0): ("var", True)}
        self.assertEqual(wrong, kinds)
        self.assertIs(is_derivation(program, places_of(program[1]), (wrong, {(): (1,)})), False)

    def test_any_value(self):
        for value in any_values() + STRANGE:
            self.judged(value, False)
            self.judged((value, self.general), False)
            self.judged((self.kinds, value), False)
            self.judged(({**self.kinds, (0,): value}, self.general), False)
            self.judged((self.kinds, {(): value}), False)
            self.judged((self.kinds, {(): (value,)}), False)


class SpecialisedTest(unittest.TestCase):
    def test_specialised(self):
        program = program_of("give fn z -> let x = fn y -> z in x")
        places = places_of(program[1])
        thing = derivation_of(program, places)
        outer = thing[0][()][1][1]
        inner = [index for index in variables_in(thing[0][(0, 0)]) if index != outer][0]
        self.assertEqual(thing[1], {(0,): (inner,)})
        before = frozen(thing)
        told = specialised(thing, {outer: ("cell", ("var", 77))})
        self.assertEqual(frozen(thing), before)
        self.assertEqual(told[1], thing[1])
        self.assertEqual(list(told[0]), sorted(told[0]))
        self.assertEqual(told[0], {place: put(kind, {outer: ("cell", ("var", 77))}) for place, kind in thing[0].items()})
        self.assertIs(is_derivation(program, places, told), True)
        told[0].clear()
        told[1].clear()
        self.assertEqual(frozen(thing), before)
        self.assertEqual(specialised(thing, {}), thing)

    def test_order_of_keys(self):
        program = program_of(HEAD + "let x = Nil in let y = Nil in x")
        thing = derivation_of(program, places_of(program[1]))
        turned = (dict(list(thing[0].items())[::-1]), dict(list(thing[1].items())[::-1]))
        told = specialised(turned, {})
        self.assertEqual([list(part) for part in told], [sorted(part) for part in thing])

    def test_too_great(self):
        thing = ({(): ("var", 0), (0,): ("to", ("var", 0), ("var", 0))}, {})
        half = ("of", "A", (NUM,) * 998)
        self.assertEqual(specialised(thing, {0: half})[0][(0,)], ("to", half, half))
        with self.assertRaises(errors.TooGreat) as caught:
            specialised(thing, {0: ("of", "A", (NUM,) * 999)})
        self.assertEqual(caught.exception.most, 2000)

    def test_random_ones(self):
        chance = random.Random(30)
        many = 0
        for _ in range(300):
            program = random_program(chance, 3)
            places = places_of(program[1])
            lot = tuple(place for place in places if chance.randrange(5))
            thing = derivation_of(program, lot)
            if thing is None:
                continue
            barred = {index for some in thing[1].values() for index in some}
            standing = {index for kind in thing[0].values() for index in variables_in(kind)}
            rests = {index for kind in thing[0].values() for index in rests_of(kind)}
            sub = {index: ((), None) if index in rests else some_kind(chance, 1)
                   for index in sorted(standing - barred) if chance.randrange(2)}
            self.assertIs(is_derivation(program, lot, specialised(thing, sub)), True)
            many += len(sub) > 0
        self.assertGreater(many, 100)


def rests_of(kind):
    if kind[0] == "record":
        return ([] if kind[2] is None else [kind[2][1]]) + [index for _, part in kind[1] for index in rests_of(part)]
    parts = kind[1] if kind[0] == "tuple" else kind[2] if kind[0] == "of" else kind[1:] if kind[0] in ("to", "cell") else ()
    return [index for part in parts for index in rests_of(part)]


if __name__ == "__main__":
    unittest.main()
