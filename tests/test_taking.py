"""[41]: programs that are taken."""

import random
import unittest

from kindsworn import errors
from kindsworn.checker import derivation_of, scheme_of_program
from kindsworn.lots import least_lot
from kindsworn.missing import is_missing, missing, needless
from kindsworn.reader import read_pattern, read_program
from kindsworn.taking import first_unwhole, is_taken, needless_rows, taken
from kindsworn.trees import part_at, places_of
from tests.anything import frozen
from tests.test_checker import NAME, doubled, program_of, scheme
from tests.typed import mixed_program, random_program

BAD = ("op", "+", ("num", 1), ("truth", True))
UNWHOLE = "(fn o -> match o with | Some x -> x end)"


class TakingTest(unittest.TestCase):
    def raises(self, call, program, wanted, **fields):
        before = frozen(program)
        with self.assertRaises(errors.SwornError) as caught:
            call(program)
        self.assertIs(type(caught.exception), wanted)
        for name, value in fields.items():
            self.assertEqual(getattr(caught.exception, name), value)
        self.assertEqual(frozen(program), before)

    def test_taken(self):
        for text, told in [("1", "num"), ("fn x -> x", "?0 -> ?0"), ("fn o -> match o with | Some x -> x | No -> 0 end", "Opt num -> num"), ("match 1 with | x -> x end", "num"),
                           ("fn x -> match x with | true -> 1 | false -> 2 end", "truth -> num"), ("fn x -> match x with | (a, _) -> a end", "(?0, ?1) -> ?0")]:
            program = program_of(text)
            self.assertEqual(taken(program), scheme(told), text)
            self.assertIs(is_taken(program), True)
            self.assertIsNone(first_unwhole(program))
            self.assertEqual(needless_rows(program), {})

    def test_unwhole_in_each_word(self):
        """Matches that forget something, wherever they stand, the least place first."""
        for text, place in [
                (f"({UNWHOLE}) No", (0, 0)), (f"fn y -> {UNWHOLE}", (0, 0)), (f"let x = {UNWHOLE} in x", (0, 0)), (f"let x = 1 in {UNWHOLE}", (1, 0)),
                (f"rec f = {UNWHOLE[1:-1]} in f", (0, 0)), (f"rec f = fn x -> x and g = {UNWHOLE[1:-1]} in f", (1, 0)), (f"rec f = fn x -> x in {UNWHOLE}", (1, 0)), (f"if match true with | true -> true end then 1 else 2", (0,)),
                (f"if true then {UNWHOLE} else fn x -> 1", (1, 0)), (f"if true then fn x -> 1 else {UNWHOLE}", (2, 0)), (f"({UNWHOLE}, {UNWHOLE})", (0, 0)), (f"(1, {UNWHOLE})", (1, 0)), (f"{{a = 1, b = {UNWHOLE}}}", (1, 0)),
                (f"{{a = {UNWHOLE}}}.a", (0, 0, 0)), (f"Some {UNWHOLE}", (0, 0)), (f"match {UNWHOLE} with | f -> 1 end", (0, 0)), (f"match 1 with | 0 -> 1 | _ -> match 2 with | 2 -> 3 end end", (2,)),
                ("match No with | Some x -> match 1 with | 1 -> 2 end end", ()), (f"new {UNWHOLE}", (0, 0)), (f"get (new {UNWHOLE})", (0, 0, 0)), (f"put (new {UNWHOLE}) {UNWHOLE}", (0, 0, 0)), (f"put (new (fn o -> 1)) {UNWHOLE}", (1, 0)),
                ("1 + match 1 with | 1 -> 2 end", (1,)), ("match 1 with | 1 -> 2 end + 1", (0,)), ("tell (match 1 with | 1 -> 2 end)", (0,))]:
            program = program_of(text)
            found = first_unwhole(program)
            self.assertEqual(found[0], place, text)
            match = part_at(program[1], place)
            kind = derivation_of(program, places_of(program[1]))[0][place + (0,)]
            patterns = [pattern for pattern, _ in match[2]]
            self.assertEqual(found[1], missing(program[0], kind, patterns))
            self.assertIs(is_missing(program[0], kind, patterns, found[1]), True)
            self.assertIs(is_taken(program), False)
            self.raises(taken, program, errors.NotWhole, place=found[0], pattern=found[1])
            self.assertEqual(needless_rows(program), {})

    def test_needless_rows(self):
        program = program_of("fn o -> match o with | No -> 1 | _ -> match 1 with | 1 -> 2 | 1 -> 3 | x -> match x with | _ -> 1 | 2 -> 2 end | _ -> 5 end "
                             "| Some 1 -> 2 | Some x -> 3 end")
        told = needless_rows(program)
        self.assertEqual(told, {(0,): (2, 3), (0, 2): (1, 3), (0, 2, 3): (1,)})
        self.assertEqual(list(told), sorted(told))
        told.clear()
        self.assertEqual(len(needless_rows(program)), 3)
        self.assertIs(is_taken(program), True)
        self.assertIsNone(first_unwhole(program))
        half = program_of("match No with | Some 1 -> 1 | Some 1 -> 2 end")
        self.assertEqual([needless_rows(half), first_unwhole(half)[0], is_taken(half)], [{(): (1,)}, (), False])

    def test_no_kind(self):
        for text in ("1 + true", "(1 + true, match 1 with | 2 -> 3 end)", "match 1 with | true -> 1 end", "fn x -> x x"):
            program = program_of(text)
            lot = least_lot(program)
            for call in (taken, first_unwhole, needless_rows):
                self.raises(call, program, errors.NotTyped, lot=lot)
            self.assertIs(is_taken(program), False)

    def test_errors_in_their_order(self):
        great = ("let", "x0", ("num", 1), doubled(12, NAME("x12")))
        half = ("match", ("num", 1), ((("num", 2), ("num", 3)),))
        for term in (great, ("tuple", (great, half)), ("tuple", (half, great))):
            for call in (taken, first_unwhole, needless_rows, is_taken):
                self.raises(call, ((), term), errors.TooGreat, most=2000)
        for term in (("tuple", (great, BAD)), ("tuple", (BAD, great)), ("tuple", (half, BAD, great))):
            program = ((), term)
            for call in (taken, first_unwhole, needless_rows):
                self.raises(call, program, errors.NotTyped, lot=least_lot(program))
            self.assertIs(is_taken(program), False)
        self.raises(taken, ((), half), errors.NotWhole, place=(), pattern=missing((), ("num",), [("num", 2)]))

    def test_kinds_that_grow_within_makers(self):
        """What is asked behind makers may be however great."""
        some = read_program("kind Grow ?0 = Stop ?0 | Grow (Grow (?0, ?0)) give 1")[0]
        deep = lambda many, last: last if many == 0 else f"Grow ({deep(many - 1, last)})"
        rows = [("Stop _", 1)] + [(deep(at, "Stop _"), 1) for at in range(1, 14)] + [(deep(14, "_"), 1)]
        term = lambda rows: ("fn", "g", ("match", NAME("g"), tuple((read_pattern(text), ("num", number)) for text, number in rows)))
        self.assertEqual(taken((some, term(rows))), (1, ("to", ("of", "Grow", (("var", 0),)), ("num",))))
        self.assertEqual(needless_rows((some, term(rows))), {})
        gone = rows[:9] + rows[10:]
        self.assertEqual(first_unwhole((some, term(gone))), ((0,), read_pattern(deep(9, "Stop _"))))
        self.assertEqual(needless_rows((some, term(rows + [(deep(12, "Stop _"), 1)]))), {(0,): (15,)})

    def test_random_programs(self):
        chance = random.Random(45)
        met = {"taken": 0, "unwhole": 0, "none": 0, "needless": 0}
        for turn in range(500):
            program = mixed_program(chance, 3) if turn % 2 else random_program(chance, 4)
            if len(places_of(program[1])) > 120:
                continue
            before = frozen(program)
            derivation = derivation_of(program, places_of(program[1]))
            if derivation is None:
                met["none"] += 1
                self.raises(taken, program, errors.NotTyped)
                continue
            unwhole, rows = [], {}
            for place in places_of(program[1]):
                term = part_at(program[1], place)
                if term[0] == "match":
                    patterns = [pattern for pattern, _ in term[2]]
                    found = missing(program[0], derivation[0][place + (0,)], patterns)
                    unwhole += [] if found is None else [(place, found)]
                    more = needless(program[0], derivation[0][place + (0,)], patterns)
                    rows.update({place: more} if more else {})
            self.assertEqual(first_unwhole(program), unwhole[0] if unwhole else None)
            self.assertEqual(needless_rows(program), rows)
            self.assertIs(is_taken(program), unwhole == [])
            if unwhole:
                self.raises(taken, program, errors.NotWhole, place=unwhole[0][0], pattern=unwhole[0][1])
            else:
                self.assertEqual(taken(program), scheme_of_program(program))
            self.assertEqual(frozen(program), before)
            met["unwhole" if unwhole else "taken"] += 1
            met["needless"] += rows != {}
        self.assertGreater(min(met.values()), 20)


if __name__ == "__main__":
    unittest.main()
