"""[34] to [37]: lots that have no kinds, and what mends them."""

import itertools
import random
import unittest

from kindsworn import errors
from kindsworn.lots import (
    all_places, are_lots_apart, greatest_lots_in, has_kinds, is_least_lot, is_least_mending, least_lot, least_lots_in,
    least_mending, lots_apart, mends)
from kindsworn.trees import places_of
from tests.anything import STRANGE, any_values, frozen, spoilt
from tests.plain import kinds_of
from tests.test_checker import NAME, calling, doubled, program_of
from tests.typed import mixed_program

BAD = ("op", "+", ("num", 1), ("truth", True))


class Plainly:
    """Lots, told once more, each by all that is in it."""

    def __init__(self, program):
        self.program = program
        self.places = places_of(program[1])
        self.known = {}

    def good(self, lot):
        lot = tuple(sorted(lot))
        if lot not in self.known:
            self.known[lot] = kinds_of(self.program, lot) is not None
        return self.known[lot]

    def less(self, lot, place):
        return [other for other in lot if other != place]

    def least(self, places):
        left = list(places)
        for place in places[::-1]:
            if not self.good(self.less(left, place)):
                left = self.less(left, place)
        return tuple(left)

    def is_least(self, lot):
        return not self.good(lot) and all(self.good(self.less(lot, place)) for place in lot)

    def apart(self):
        found, left = [], list(self.places)
        while not self.good(left):
            found.append(self.least(left))
            left = [place for place in left if place not in found[-1]]
        return found

    def mending(self):
        kept = []
        for place in self.places:
            if self.good(kept + [place]):
                kept.append(place)
        return tuple(place for place in self.places if place not in kept)

    def mends(self, lot):
        return self.good([place for place in self.places if place not in lot])

    def is_least_mending(self, lot):
        return self.mends(lot) and not any(self.mends(self.less(lot, place)) for place in lot)

    def lots_in(self, lot):
        lots = [some for many in range(len(lot) + 1) for some in itertools.combinations(lot, many)]
        bad = [some for some in lots if not self.good(some)]
        good = [some for some in lots if self.good(some)]
        inside = lambda one, other: one != other and set(one) <= set(other)
        return (sorted(one for one in bad if not any(inside(other, one) for other in bad)),
                sorted(one for one in good if not any(inside(one, other) for other in good)))


def samples(seed, many, most):
    """Random programs, most of them without a kind, with at most so many places."""
    chance = random.Random(seed)
    found = []
    while len(found) < many:
        program = mixed_program(chance, chance.choice([2, 3]))
        if len(places_of(program[1])) <= most:
            if kinds_of(program, places_of(program[1])) is None or chance.randrange(8) == 0:
                found.append(program)
    return found


class HasKindsTest(unittest.TestCase):
    def test_all_places(self):
        program = program_of("fn x -> x + 1")
        self.assertEqual(all_places(program), ((), (0,), (0, 0), (0, 1)))
        self.assertEqual(all_places(((), ("num", 1))), ((),))

    def test_all_lots_of_small_programs(self):
        bad = 0
        for program in samples(1, 12, 8) + [program_of(text) for text in (
                "let f = fn x -> x in f 1 + f", "let x = 1 in x true", "rec f = fn x -> f in f 1", "match true with | 1 -> 2 end",
                "fn z -> let f = z in (f 1, f)", "let r = {a = 1} in r.b", "(fn x -> x x) 1", "let c = new 1 in put c true")]:
            plainly = Plainly(program)
            for many in range(len(plainly.places) + 1):
                for lot in itertools.combinations(plainly.places, many):
                    self.assertIs(has_kinds(program, lot), plainly.good(lot), (program, lot))
                    bad += not plainly.good(lot)
        self.assertGreater(bad, 100)

    def test_what_is_not_asked(self):
        program = program_of("(fn f -> (f 1, f true)) (fn x -> x)")
        places = all_places(program)
        self.assertIs(has_kinds(program, places), False)
        for gone in ((0,), (0, 0, 0), (0, 0, 0, 0), (0, 0, 1, 1)):
            self.assertIs(has_kinds(program, tuple(place for place in places if place != gone)), True)
        self.assertIs(has_kinds(program, tuple(place for place in places if place != (1, 0))), False)
        settled = program_of("let f = fn x -> x in (f 1, f true)")
        self.assertIs(has_kinds(settled, tuple(place for place in all_places(settled) if place != (0,))), True)
        other = program_of("let f = (fn y -> y) (fn x -> x) in (f 1, f true)")
        self.assertIs(has_kinds(other, all_places(other)), False)
        self.assertIs(has_kinds(other, tuple(place for place in all_places(other) if place != (0,))), False)
        self.assertIs(has_kinds(other, all_places(other)[1:]), True)


class LotsInTest(unittest.TestCase):
    def test_lots_in(self):
        some = 0
        for program in samples(2, 14, 14):
            plainly = Plainly(program)
            chance = random.Random(len(plainly.places))
            for _ in range(2):
                lot = set(chance.sample(plainly.places, min(len(plainly.places), chance.choice([0, 1, 3, 4]))))
                lot = tuple(sorted(lot | set((least_lot(program) or ())[:4])))
                least, greatest = plainly.lots_in(lot)
                before = frozen((program, lot))
                self.assertEqual(least_lots_in(program, lot), least)
                self.assertEqual(greatest_lots_in(program, lot), greatest)
                self.assertEqual(frozen((program, lot)), before)
                some += len(least) > 0
        self.assertGreater(some, 3)

    def test_ten_places(self):
        program = ((), ("tuple", (BAD, BAD, BAD, BAD)))
        places = all_places(program)
        lot = tuple(place for place in places if len(place) == 1 or place[1:] == (1,))
        self.assertEqual(len(lot), 8)
        ten = tuple(sorted(lot + ((0, 0), (1, 0))))
        self.assertEqual(least_lots_in(program, ten), [((at,), (at, 1)) for at in range(4)])
        told = greatest_lots_in(program, ten)
        self.assertEqual(len(told), 16)
        self.assertEqual(told, sorted(told))
        self.assertEqual({len(some) for some in told}, {6})
        eleven = tuple(sorted(ten + ((),)))
        for call in (least_lots_in, greatest_lots_in):
            before = frozen(program)
            with self.assertRaises(errors.TooMany) as caught:
                call(program, eleven)
            self.assertEqual(caught.exception.most, 10)
            self.assertEqual(frozen(program), before)
            with self.assertRaises(errors.TooMany):
                call(program, places)

    def test_edges(self):
        program = ((), BAD)
        self.assertEqual([least_lots_in(program, ()), greatest_lots_in(program, ())], [[], [()]])
        self.assertEqual([least_lots_in(program, ((),)), greatest_lots_in(program, ((),))], [[], [((),)]])
        told = least_lots_in(program, all_places(program))
        told.append(1)
        self.assertEqual(least_lots_in(program, all_places(program)), [((), (1,))])


class LeastLotTest(unittest.TestCase):
    def test_random_programs(self):
        none = 0
        for program in samples(3, 40, 40):
            plainly = Plainly(program)
            before = frozen(program)
            found = least_lot(program)
            self.assertEqual(frozen(program), before)
            if plainly.good(plainly.places):
                self.assertIsNone(found)
                self.assertEqual([lots_apart(program), least_mending(program)], [[], ()])
                none += 1
                continue
            self.assertEqual(found, plainly.least(plainly.places))
            self.assertIs(is_least_lot(program, found), True)
            self.assertEqual(lots_apart(program), plainly.apart())
            self.assertIs(are_lots_apart(program, lots_apart(program)), True)
            self.assertEqual(least_mending(program), plainly.mending())
            self.assertIs(is_least_mending(program, least_mending(program)), True)
            self.assertIs(mends(program, least_mending(program)), True)
            self.assertGreaterEqual(len(least_mending(program)), len(lots_apart(program)))
        self.assertGreater(none, 0)

    def test_all_lots_as_things(self):
        for program in samples(4, 6, 7) + [program_of("(1 1, 1 + true)"), program_of("let x = 1 in x x")]:
            plainly = Plainly(program)
            lots = [lot for many in range(len(plainly.places) + 1) for lot in itertools.combinations(plainly.places, many)]
            for lot in lots[:200]:
                self.assertIs(is_least_lot(program, lot), plainly.is_least(lot))
                self.assertIs(mends(program, lot), plainly.mends(lot))
                self.assertIs(is_least_mending(program, lot), plainly.is_least_mending(lot))
                self.assertIs(are_lots_apart(program, [lot]), plainly.is_least(lot))

    def test_lots_apart(self):
        two = program_of("(1 + true, 1 true)")
        first, second = ((0,), (0, 1)), ((1,), (1, 0))
        self.assertEqual(lots_apart(two), [first, second])
        for thing, right in [([], True), ([first], True), ([second], True), ([second, first], True), ([first, first], False),
                             ((first, second), False), ([first, list(second)], False), ([first, second, ()], False), ([()], False),
                             ([((0,), (0, 0), (0, 1))], False), ([((0,),)], False), ([first[::-1]], False), ([((False,), (0, 1))], False),
                             ([((0,), (0, True))], False), ([((0,), (0, 7))], False), (None, False), ({}, False), (first, False)]:
            self.assertIs(are_lots_apart(two, thing), right, thing)
        one = program_of("1 + true + ()")
        self.assertEqual(len(lots_apart(one)), 2)
        shared = program_of("true + ()")
        self.assertEqual(lots_apart(shared), [((), (0,))])
        self.assertIs(are_lots_apart(shared, [((), (1,))]), True)
        self.assertIs(are_lots_apart(shared, [((), (0,)), ((), (1,))]), False)
        self.assertEqual([is_least_mending(shared, ((),)), is_least_mending(shared, ((0,), (1,))), is_least_mending(shared, ((0,),))],
                         [True, True, False])
        self.assertEqual(least_mending(shared), ((0,), (1,)))


class AnyValueTest(unittest.TestCase):
    def test_any_value(self):
        bad = program_of("1 + true")
        fine = program_of("1 + 1")
        for value in any_values() + STRANGE:
            before = frozen(value)
            for call in (is_least_lot, are_lots_apart, is_least_mending):
                for program in (bad, fine):
                    expected = (call is are_lots_apart and value == [] and isinstance(value, list)) or (
                        call is is_least_mending and program is fine and value == () and isinstance(value, tuple))
                    self.assertIs(call(program, value), expected, (call, before[:60]))
            self.assertIs(are_lots_apart(bad, [value]), False)
            self.assertEqual(frozen(value), before)

    def test_one_place_otherwise(self):
        program = program_of("(1 + true, 2)")
        lot = least_lot(program)
        self.assertEqual(lot, ((0,), (0, 1)))
        mending = least_mending(program)
        self.assertEqual(mending, ((0, 1),))
        for thing in spoilt(lot):
            self.assertIs(is_least_lot(program, thing), frozen(thing) == frozen(lot), thing)
            self.assertIs(are_lots_apart(program, [thing]), frozen(thing) == frozen(lot), thing)
        for thing in spoilt(mending):
            right = frozen(thing) in (frozen(mending), frozen(((0,),)))
            self.assertIs(is_least_mending(program, thing), right, thing)

    def test_truths_and_lists(self):
        program = program_of("1 + true")
        for thing, right in [(((), (1,)), True), (((), (True,)), False), ([(), (1,)], False), (((), [1]), False), (((1,), ()), False),
                             (((), (), (1,)), False), (((), (1,), (2,)), False), (((), (1,), (1, 0)), False), (((), (-1,)), False), ((), False)]:
            self.assertIs(is_least_lot(program, thing), right, thing)
        for thing, right in [(((1,),), True), (((True,),), False), ([(1,)], False), (((),), True), (((), (1,)), False), (((1,), (2,)), False), ((), False)]:
            self.assertIs(is_least_mending(program, thing), right, thing)
        fine = program_of("1 + 1")
        for thing, right in [((), True), (((),), False), ([], False), (None, False)]:
            self.assertIs(is_least_mending(fine, thing), right, thing)
            self.assertIs(is_least_lot(fine, thing), False)


class DoublingTest(unittest.TestCase):
    """Kinds that double again and again: nothing here is too great."""

    def test_doubling(self):
        for many in (11, 15):
            lets = lambda one, last: ((), ("let", "x0", one, doubled(many, last)))
            fine = lets(("num", 1), NAME(f"x{many}"))
            self.assertIs(has_kinds(fine, all_places(fine)), True)
            self.assertEqual([least_lot(fine), lots_apart(fine), least_mending(fine)], [None, [], ()])
            self.assertIs(is_least_mending(fine, ()), True)
            bad = lets(("num", 1), ("tuple", (NAME(f"x{many}"), BAD)))
            place = (1,) * (many + 2)
            self.assertEqual(least_lot(bad), (place, place + (1,)))
            self.assertEqual(lots_apart(bad), [(place, place + (1,))])
            self.assertEqual(least_mending(bad), (place + (1,),))
            self.assertIs(mends(bad, (place,)), True)
            self.assertIs(is_least_lot(bad, (place, place + (1,))), True)
            deep = lets(("num", 1), ("op", "+", ("num", 1), NAME(f"x{many}")))
            lot = least_lot(deep)
            self.assertIs(is_least_lot(deep, lot), True)
            self.assertEqual(len(lot), 4)

    def test_doubling_by_variables(self):
        lets = lambda many, last: ((), ("let", "x0", ("fn", "x", NAME("x")), doubled(many, last)))
        bad = lets(10, ("tuple", (NAME("x10"), BAD)))
        self.assertEqual(least_lot(bad), ((1,) * 12, (1,) * 13))
        self.assertEqual(least_mending(bad), ((1,) * 13,))
        calls = ((), ("let", "x0", ("fn", "x", ("tuple", (NAME("x"),) * 2)), calling(11)))
        self.assertIs(has_kinds(calls, all_places(calls)), True)
        self.assertIsNone(least_lot(calls))

    def test_doubling_by_calls(self):
        calls = lambda last: ((), ("let", "x0", ("fn", "x", ("tuple", (NAME("x"),) * 2)), calling(14, last, 3)))
        fine = calls(None)
        self.assertEqual([least_lot(fine), lots_apart(fine), least_mending(fine)], [None, [], ()])
        bad = calls(("tuple", (NAME("x14"), BAD)))
        self.assertEqual(lots_apart(bad), [((1,) * 16, (1,) * 17)])
        self.assertEqual(least_mending(bad), ((1,) * 17,))
        deep = calls(("op", "+", ("num", 1), ("call", NAME("x14"), ("num", 1))))
        self.assertIs(is_least_lot(deep, least_lot(deep)), True)

    def test_least_lots_in(self):
        program = ((), ("let", "x0", ("num", 1), doubled(13, ("tuple", (NAME("x13"), BAD)))))
        places = all_places(program)
        self.assertEqual(least_lots_in(program, places[-6:]), [((1,) * 15, (1,) * 16)])
        self.assertEqual(len(greatest_lots_in(program, places[-6:])), 2)


if __name__ == "__main__":
    unittest.main()
