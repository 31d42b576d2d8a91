"""[23]: kinds, and what is put in."""

import random
import unittest

from kindsworn import errors
from kindsworn.forms import is_kind
from kindsworn.kinds import (
    are_fit, field_kind, is_substitution, put_after, put_in, rests_in, size_of_kind, variables_in)
from kindsworn.reader import read_kind
from tests.anything import STRANGE, any_values, frozen, spoilt
from tests.plain import put
from tests.samples import random_kind

NUM, TRUTH = ("num",), ("truth",)


def var(index):
    return ("var", index)


def row(text):
    """The row of the record that a text tells."""
    return read_kind(text)[1:]


def cells(depth, inmost=NUM):
    """A kind that is so deep."""
    for _ in range(depth - 1):
        inmost = ("cell", inmost)
    return inmost


def nums(parts):
    """A kind with so many parts, two deep."""
    return ("of", "A", (NUM,) * (parts - 1))


class VariablesTest(unittest.TestCase):
    def test_variables(self):
        for text, told, rests in [
                ("num", (), ()), ("?3", (3,), ()), ("?3 -> ?1", (3, 1), ()), ("(?1, ?0, ?1) -> ?2 -> ?0", (1, 0, 2), ()),
                ("{a: ?5 | ?2} -> ?1", (5, 2, 1), (2,)), ("{a: {b: ?9 | ?8}, c: ?7 | ?6}", (9, 8, 7, 6), (6, 8)),
                ("{| ?4}", (4,), (4,)), ("List (cell ?2) ?1 {a: ?2}", (2, 1), ()), ("{a: num | ?3} -> {a: ?0 | ?3}", (3, 0), (3,)),
                ("({| ?9}, {| ?1}, {| ?5})", (9, 1, 5), (1, 5, 9)), ("cell (?10 -> ?2)", (10, 2), ())]:
            self.assertEqual(variables_in(read_kind(text)), told, text)
            self.assertEqual(rests_in(read_kind(text)), rests, text)

    def test_are_fit(self):
        for texts, told in [
                ([], True), (["num"], True), (["?0", "?0 -> ?1"], True), (["{| ?0}", "{| ?0}"], True),
                (["{a: num | ?0}", "{a: truth | ?0} -> ?1"], True), (["{| ?0}", "?0"], False), (["?0", "{a: ?1 | ?0}"], False),
                (["{a: num | ?0}", "{| ?0}"], False), (["{a: num | ?0}", "{b: num | ?0}"], False),
                (["{a: num, b: num | ?0}", "num", "(num, {a: num | ?0})"], False),
                (["{a: num | ?0}", "{b: num | ?1}", "cell {a: num | ?0}"], True), (["{a: num}", "{b: num}"], True),
                (["{a: {| ?1} | ?0}", "{| ?1}"], True), (["{a: {| ?1} | ?0}", "{a: num | ?1}"], False)]:
            kinds = [read_kind(text) for text in texts]
            self.assertIs(are_fit(kinds), told, texts)
            self.assertIs(are_fit(tuple(kinds)), told)
            self.assertIs(are_fit(kinds[::-1]), told)

    def test_sizes(self):
        for text, many in [("num", 1), ("?0", 1), ("num -> num", 3), ("()", 1), ("(num, num -> num)", 5), ("{}", 1), ("{| ?0}", 1),
                           ("{a: num | ?0}", 2), ("cell (cell num)", 3), ("List", 1), ("List num (List num)", 4)]:
            self.assertEqual(size_of_kind(read_kind(text)), many, text)
        self.assertEqual(size_of_kind(nums(2000)), 2000)
        self.assertEqual(size_of_kind(cells(100)), 100)
        shared = NUM
        for _ in range(10):
            shared = ("to", shared, shared)
        self.assertEqual(size_of_kind(shared), 2 ** 11 - 1)

    def test_fields(self):
        record = read_kind("{a: num, b: ?1 -> truth, c: ?2 | ?3}")
        self.assertEqual(field_kind(record, "a"), NUM)
        self.assertEqual(field_kind(record, "b"), ("to", var(1), TRUTH))
        self.assertEqual(field_kind(record, "c"), var(2))
        for label in ("d", "ab", "A"):
            self.assertIsNone(field_kind(record, label))
        for text in ("num", "?0", "()", "(num, num)", "List num", "cell {a: num}", "{}", "{| ?0}", "{b: num} -> {a: num}"):
            self.assertIsNone(field_kind(read_kind(text), "a"), text)


class PutInTest(unittest.TestCase):
    def test_put_in(self):
        for text, sub, told in [
                ("?0 -> ?1", {}, "?0 -> ?1"), ("?0 -> ?1", {0: NUM}, "num -> ?1"), ("?0 -> ?1", {0: var(1), 1: var(0)}, "?1 -> ?0"),
                ("?0 -> ?0", {0: ("cell", var(0))}, "cell ?0 -> cell ?0"), ("(?0, ?1)", {0: var(1), 1: NUM}, "(?1, num)"),
                ("{a: num | ?0}", {0: row("{b: truth, c: num}")}, "{a: num, b: truth, c: num}"),
                ("{b: num | ?0}", {0: row("{a: truth, c: num | ?7}")}, "{a: truth, b: num, c: num | ?7}"),
                ("{b: ?1 | ?0}", {0: row("{a: ?1 | ?0}"), 1: NUM}, "{a: ?1, b: num | ?0}"),
                ("{| ?0}", {0: row("{}")}, "{}"), ("{| ?0}", {0: row("{| ?4}")}, "{| ?4}"), ("{| ?0}", {0: row("{a: num}")}, "{a: num}"),
                ("{c: num | ?0} -> {c: truth | ?0}", {0: row("{a: ?1 | ?9}")}, "{a: ?1, c: num | ?9} -> {a: ?1, c: truth | ?9}"),
                ("List ?0 (cell ?0)", {0: read_kind("List num")}, "List (List num) (cell (List num))"),
                ("num", {0: TRUTH, 5: row("{}")}, "num"), ("{a: {b: ?0 | ?1} | ?2}", {1: row("{a: num}"), 0: read_kind("{| ?5}")},
                                                         "{a: {a: num, b: {| ?5}} | ?2}"),
                ("{b: num, d: num | ?0}", {0: row("{a: num, c: truth, e: num}")}, "{a: num, b: num, c: truth, d: num, e: num}")]:
            kind = read_kind(text)
            before = frozen((kind, sub))
            self.assertEqual(put_in(kind, sub), read_kind(told), text)
            self.assertEqual(frozen((kind, sub)), before)

    def test_keys_in_any_order(self):
        kind = read_kind("({a: ?0 | ?5}, ?1)")
        one = {0: NUM, 1: TRUTH, 5: row("{b: num}")}
        other = {key: one[key] for key in (5, 1, 0)}
        self.assertEqual(put_in(kind, one), put_in(kind, other))
        self.assertEqual(put_after(one, other), put_after(other, one))
        self.assertEqual(list(put_after(other, {})), [0, 1, 5])

    def test_put_after(self):
        for one, other, told in [
                ({}, {}, {}), ({0: var(1)}, {1: NUM}, {0: NUM, 1: NUM}), ({0: NUM}, {0: TRUTH}, {0: NUM}),
                ({3: read_kind("?0 -> ?1")}, {1: var(0), 0: var(1)}, {0: var(1), 1: var(0), 3: read_kind("?1 -> ?0")}),
                ({5: row("{a: ?0 | ?6}")}, {0: NUM, 6: row("{b: ?0 | ?7}")},
                 {0: NUM, 5: row("{a: num, b: ?0 | ?7}"), 6: row("{b: ?0 | ?7}")}),
                ({5: row("{b: num | ?6}")}, {6: row("{a: num}")}, {5: row("{a: num, b: num}"), 6: row("{a: num}")}),
                ({5: row("{| ?6}")}, {6: row("{}")}, {5: row("{}"), 6: row("{}")}), ({}, {9: row("{}"), 1: NUM}, {1: NUM, 9: row("{}")}),
                ({2: read_kind("{| ?6}")}, {6: row("{a: ?2}")}, {2: read_kind("{a: ?2}"), 6: row("{a: ?2}")})]:
            before = frozen((one, other))
            made = put_after(one, other)
            self.assertEqual(made, told)
            self.assertEqual(list(made), sorted(told))
            self.assertEqual(frozen((one, other)), before)
            self.assertIsNot(made, one)
            self.assertIsNot(made, other)
            self.assertTrue(is_substitution(made))

    def test_what_is_told_is_new(self):
        one, other = {0: var(1)}, {}
        made = put_after(one, other)
        made[7] = NUM
        self.assertEqual((one, other, put_after(one, other)), ({0: var(1)}, {}, {0: var(1)}))

    def test_one_behind_the_other(self):
        chance = random.Random(12)
        rows = 0
        for _ in range(400):
            # Kinds are variables below 10; rests stand behind labels that hang on what they are modulo 4.
            def sub(keys, rests):
                made = {key: random_kind(chance, 2, (0, 1, 2), (5, 6)) for key in keys if chance.randrange(3)}
                for key in rests:
                    if chance.randrange(3):
                        fields = [(f"z{key}{at}", random_kind(chance, 1, (0, 1, 2), (5, 6))) for at in range(chance.randrange(3))]
                        made[key] = (tuple(fields), chance.choice([None, var(100 + key)]))
                return made

            kind = random_kind(chance, 4, (0, 1, 2), (5, 6))
            one, other = sub((0, 1, 2), (5, 6)), sub((0, 1, 2), (105, 106))
            before = frozen((kind, one, other))
            once = put_in(kind, one)
            self.assertEqual(once, put(kind, one))
            self.assertTrue(is_kind(once))
            self.assertEqual(put_in(once, other), put(once, other))
            self.assertEqual(put_in(kind, put_after(one, other)), put_in(once, other))
            self.assertEqual(list(put_after(one, other)), sorted(set(one) | set(other)))
            self.assertEqual(frozen((kind, one, other)), before)
            rows += any(key >= 5 for key in one) and any(key > 100 for key in other)
        self.assertGreater(rows, 100)


class TooGreatTest(unittest.TestCase):
    def too_great(self, call, *arguments):
        before = frozen(arguments)
        with self.assertRaises(errors.TooGreat) as caught:
            call(*arguments)
        self.assertEqual(caught.exception.most, 2000)
        self.assertEqual(frozen(arguments), before)

    def test_parts(self):
        kind = ("to", var(0), var(1))
        self.assertEqual(put_in(kind, {0: nums(1000), 1: nums(999)}), ("to", nums(1000), nums(999)))
        self.too_great(put_in, kind, {0: nums(1000), 1: nums(1000)})
        self.assertEqual(put_in(("to", NUM, NUM), {0: nums(2000)}), ("to", NUM, NUM))
        self.assertEqual(put_in(var(0), {0: nums(2000)}), nums(2000))
        self.too_great(put_in, ("cell", var(0)), {0: nums(2000)})
        self.assertEqual(size_of_kind(put_in(("of", "A", (var(0),) * 3), {0: nums(666)})), 1999)
        self.too_great(put_in, ("of", "A", (var(0),) * 3), {0: nums(667)})
        self.assertEqual(size_of_kind(put_in(nums(2000), {0: nums(2000)})), 2000)

    def test_parts_of_rows(self):
        record = ("record", (("a", var(0)),), var(1))
        fields = lambda many: tuple((f"b{at:04d}", NUM) for at in range(many))
        self.assertEqual(size_of_kind(put_in(record, {1: (fields(1998), None)})), 2000)
        self.too_great(put_in, record, {1: (fields(1999), None)})
        self.assertEqual(size_of_kind(put_in(record, {0: nums(1000), 1: (fields(999), var(2))})), 2000)
        self.too_great(put_in, record, {0: nums(1000), 1: (fields(1000), var(2))})
        self.too_great(put_in, record, {0: nums(1000), 1: ((("b", nums(1000)),), var(2))})
        self.assertEqual(size_of_kind(put_in(("tuple", (("record", (), var(1)),) * 2), {1: (fields(998), None)})), 1999)
        self.too_great(put_in, ("tuple", (("record", (), var(1)),) * 2), {1: (fields(999), None)})

    def test_depth(self):
        self.assertEqual(put_in(cells(50, var(0)), {0: cells(51)}), cells(100))
        self.too_great(put_in, cells(50, var(0)), {0: cells(52)})
        self.assertEqual(put_in(cells(100, var(0)), {0: NUM}), cells(100))
        self.too_great(put_in, cells(100, var(0)), {0: ("cell", NUM)})
        deep = cells(50, ("record", (), var(0)))
        self.assertEqual(put_in(deep, {0: ((("a", cells(50)),), None)}), cells(50, ("record", (("a", cells(50)),), None)))
        self.too_great(put_in, deep, {0: ((("a", cells(51)),), None)})
        self.assertEqual(put_in(("record", (("a", NUM),), var(0)), {0: ((), var(1))}), ("record", (("a", NUM),), var(1)))

    def test_put_after(self):
        self.assertEqual(put_after({0: ("to", var(1), var(2))}, {1: nums(1000), 2: nums(999)})[0][0], "to")
        self.too_great(put_after, {0: ("to", var(1), var(2))}, {1: nums(1000), 2: nums(1000)})
        self.assertEqual(put_after({0: cells(50, var(1))}, {1: cells(51)})[0], cells(100))
        self.too_great(put_after, {0: cells(50, var(1))}, {1: cells(52)})

    def test_rows_that_put_after_tells(self):
        self.assertEqual(put_after({5: ((("a", var(0)),), var(6))}, {0: nums(1000), 6: ((("b", nums(1000)),), None)})[5],
                         ((("a", nums(1000)), ("b", nums(1000))), None))
        self.too_great(put_after, {5: ((("a", var(0)),), var(6))}, {0: nums(1000), 6: ((("b", nums(1001)),), None)})
        self.assertEqual(put_after({5: ((("a", cells(50, var(0))),), None)}, {0: cells(51)})[5], ((("a", cells(100)),), None))
        self.too_great(put_after, {5: ((("a", cells(50, var(0))),), None)}, {0: cells(52)})
        self.too_great(put_after, {5: ((("a", NUM),), var(6))}, {6: ((("b", nums(2000)),), None)})

    def test_what_would_be_far_more(self):
        kind = var(0)
        for _ in range(8):
            kind = ("to", kind, kind)
        self.too_great(put_in, kind, {0: kind})
        wide = ("of", "A", tuple(var(at) for at in range(1999)))
        self.too_great(put_in, wide, {at: nums(2000) for at in range(1999)})
        self.too_great(put_after, {0: wide}, {at: nums(2000) for at in range(1999)})


class SubstitutionsTest(unittest.TestCase):
    def test_right_ones(self):
        for thing in ({}, {0: NUM}, {10 ** 39: var(10 ** 39)}, {0: ((), None)}, {0: ((), var(0))}, {5: row("{a: num, b: ?0 | ?1}")},
                      {1: NUM, 0: row("{}")}, {0: var(0), 1: ((), var(0))}, {0: read_kind("{a: num | ?1}"), 1: read_kind("{| ?1}")},
                      {0: nums(2000)}, {0: cells(100)}, {0: ((("a", nums(2000)),), None)}, {0: ((("a", cells(100)),), var(1))}):
            self.assertIs(is_substitution(thing), True, thing)

    def test_wrong_ones(self):
        for thing in ({-1: NUM}, {True: NUM}, {"0": NUM}, {None: NUM}, {(): NUM}, {0: None}, {0: 1}, {0: ("num", 1)}, {0: ()},
                      {0: ((), None, None)}, {0: ((),)}, {0: [(), None]}, {0: ([], None)}, {0: ((("a", NUM), ("a", NUM)), None)},
                      {0: ((("b", NUM), ("a", NUM)), None)}, {0: ((("A", NUM),), None)}, {0: ((("a", None),), None)},
                      {0: ((), NUM)}, {0: ((), 1)}, {0: ((), var(True))}, {0: (("a", NUM), None)}, {0: nums(2001)},
                      {0: ((("a", var(1)),), var(1))}, {0: ((("a", ("record", (), var(1))),), var(1))}, {0: {}}, {0: (((),), None)},
                      {0: read_kind("(num, num)") + (1,)}, {0: NUM, 1: "num"}, [(0, NUM)], ((0, NUM),), {0: ((("a", NUM, 1),), None)},
                      {0: ((("a", nums(2000)), ("b", NUM)), None)}, {0: ((("a", cells(101)),), None)}, {0: cells(101)}):
            self.assertIs(is_substitution(thing), False, thing)

    def test_any_value(self):
        for value in any_values():
            before = frozen(value)
            expected = isinstance(value, dict) and value in ({}, {0: NUM}) and True not in [
                key is True for key in value]
            self.assertIs(is_substitution(value), expected, before[:90])
            self.assertEqual(frozen(value), before)
            self.assertIsInstance(is_substitution({0: value}), bool)

    def test_one_place_otherwise(self):
        kind = read_kind("{a: num -> ?1, b: List ?0 () | ?2}")
        for other in spoilt(kind):
            self.assertIs(is_substitution({3: other}), is_kind(other) or (
                isinstance(other, tuple) and len(other) == 2 and isinstance(other[0], tuple) and is_kind(("record",) + other)))
        for other in spoilt(kind[1:]):
            right = is_kind(other)
            if isinstance(other, tuple) and len(other) == 2 and isinstance(other[0], tuple):
                right = is_kind(("record",) + other)
            self.assertIs(is_substitution({3: other}), right, other)
        for key in STRANGE:
            if not isinstance(key, (list, dict)):
                try:
                    thing = {key: NUM}
                except TypeError:
                    continue
                self.assertIs(is_substitution(thing), type(key) is int and key >= 0)


if __name__ == "__main__":
    unittest.main()
