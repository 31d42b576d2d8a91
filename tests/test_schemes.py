"""[25], [26]: schemes and matching."""

import random
import unittest

from kindsworn import errors
from kindsworn.forms import is_kind, is_scheme
from kindsworn.kinds import put_in, variables_in
from kindsworn.reader import read_kind
from kindsworn.schemes import common_instance, instance_by, is_instance, is_more_general, matched, scheme_of
from tests.anything import frozen
from tests.plain import alike_text, comes_to, put, put_thing, solve
from tests.samples import random_kind

NUM, TRUTH = ("num",), ("truth",)
RESTS = (4, 5, 6, 77)


def var(index):
    return ("var", index)


def scheme(text):
    kind = read_kind(text)
    assert is_scheme((len(variables_in(kind)), kind)), text
    return (len(variables_in(kind)), kind)


def nums(parts):
    return ("of", "A", (NUM,) * (parts - 1))


def random_scheme(chance, room=3):
    return scheme_of(random_kind(chance, room, (0, 1, 2), chance.choice([RESTS, ()])))


def random_row(chance, labels):
    more = [label for label in ("c", "d", "e") if chance.randrange(2) and label not in labels]
    return (tuple((label, random_kind(chance, 1, (0, 7), ())) for label in more), chance.choice([None, var(90 + len(labels))]))


def random_instance(chance, some):
    """A kind that is an instance of a scheme, its variables having any numbers."""
    sub = {}
    labels = {}

    def look(kind):
        if kind[0] == "record":
            if kind[2] is not None:
                labels[kind[2][1]] = [label for label, _ in kind[1]]
            for _, part in kind[1]:
                look(part)
        elif kind[0] in ("tuple", "of"):
            for part in kind[-1]:
                look(part)
        elif kind[0] in ("to", "cell"):
            for part in kind[1:]:
                look(part)

    look(some[1])
    for index in range(some[0]):
        # Rests behind other labels have other integers, so that all of it is a kind.
        if index in labels:
            more = tuple((label, random_kind(chance, 1, (0, 7), ())) for label in ("p", "q") if chance.randrange(2))
            sub[index] = (more, chance.choice([None, var(100 + index)]))
        else:
            sub[index] = random_kind(chance, chance.choice([0, 1, 2]), (0, 1, 7, 300), ())
    return put(some[1], sub), sub


class SchemesTest(unittest.TestCase):
    def test_scheme_of(self):
        for text, told in [("num", "num"), ("?7", "?0"), ("?7 -> ?3 -> ?7", "?0 -> ?1 -> ?0"),
                           ("{a: ?4 | ?2}", "{a: ?0 | ?1}"), ("({| ?2}, ?1)", "({| ?0}, ?1)"),
                           ("{a: {b: ?9 | ?8} | ?0} -> ?1", "{a: {b: ?0 | ?1} | ?2} -> ?3"), ("?1 -> ?0", "?0 -> ?1"),
                           ("?1 -> ?2 -> ?0", "?0 -> ?1 -> ?2"), ("{b: num | ?1} -> {b: num | ?1}", "{b: num | ?0} -> {b: num | ?0}")]:
            self.assertEqual(scheme_of(read_kind(text)), scheme(told), text)

    def test_schemes_of_random_kinds(self):
        chance = random.Random(1)
        for _ in range(500):
            kind = random_kind(chance, 3, (0, 1, 2, 9), RESTS)
            some = scheme_of(kind)
            self.assertTrue(is_scheme(some))
            self.assertEqual(alike_text([some[1]]), alike_text([kind]))
            self.assertEqual(scheme_of(some[1]), some)

    def test_great_kinds(self):
        self.assertEqual(scheme_of(nums(2000)), (0, nums(2000)))
        wide = ("of", "A", tuple(var(5000 - at) for at in range(1999)))
        self.assertEqual(scheme_of(wide), (1999, ("of", "A", tuple(var(at) for at in range(1999)))))

    def test_instances(self):
        same = scheme("?0 -> ?0")
        for some, text, right in [
                (same, "num -> num", True), (same, "num -> truth", False), (same, "?3 -> ?3", True), (same, "?0 -> ?1", False),
                (same, "?1 -> ?1", True), (same, "num", False), (scheme("?0 -> ?1"), "?1 -> ?0", True), (scheme("num"), "num", True),
                (scheme("num"), "?0", False), (scheme("?0"), "?0", True), (scheme("{| ?0}"), "{}", True),
                (scheme("{| ?0}"), "{a: num}", True), (scheme("{| ?0}"), "{a: num | ?3}", True), (scheme("{a: ?0 | ?1}"), "{b: num}", False),
                (scheme("{a: ?0 | ?1}"), "{a: num}", True), (scheme("{a: ?0 | ?1}"), "{a: num, b: truth}", True),
                (scheme("{a: ?0}"), "{a: num, b: num}", False), (scheme("{a: ?0}"), "{a: num | ?1}", False), (scheme("{}"), "{}", True),
                (scheme("{| ?0} -> {| ?0}"), "{a: num} -> {a: num}", True), (scheme("{| ?0} -> {| ?0}"), "{a: num} -> {}", False),
                (scheme("{| ?0} -> {| ?0}"), "{a: num} -> {a: num | ?0}", False), (scheme("()"), "()", True),
                (scheme("(?0, ?1)"), "(num, num, num)", False), (scheme("List ?0"), "List num", True), (scheme("List ?0"), "Opt num", False),
                (scheme("List ?0"), "List num num", False), (scheme("cell ?0"), "cell (cell ?0)", True), (scheme("?0 -> num"), "?5 -> ?5", False)]:
            kind = read_kind(text)
            found = instance_by(some, kind)
            self.assertIs(is_instance(some, kind), right, (some, text))
            self.assertEqual(found is not None, right)
            if right:
                self.assertEqual(list(found), list(range(some[0])))
                self.assertEqual(put(some[1], found), kind)

    def test_random_instances(self):
        chance = random.Random(2)
        near = 0
        for _ in range(1500):
            some = random_scheme(chance)
            kind, sub = random_instance(chance, some)
            if not is_kind(kind):
                continue
            before = frozen((some, kind))
            self.assertEqual(instance_by(some, kind), sub)
            self.assertIs(is_instance(some, kind), True)
            self.assertIs(is_more_general(some, scheme_of(kind)), True)
            self.assertEqual(frozen((some, kind)), before)
            other = random_instance(chance, scheme_of(kind))[0] if chance.randrange(2) else random_kind(chance, 2, (0, 1), ())
            right = comes_to(some[1], other, range(some[0])) if not set(range(some[0])) & set(variables_in(other)) else None
            if right is not None and is_kind(other):
                self.assertIs(is_instance(some, other), right)
                near += not right
        self.assertGreater(near, 100)

    def test_is_more_general(self):
        for one, other, right in [("?0", "?0 -> ?1", True), ("?0 -> ?1", "?0", False), ("?0 -> ?1", "?0 -> ?0", True),
                                  ("?0 -> ?0", "?0 -> ?1", False), ("?0 -> ?1", "?0 -> ?1", True), ("num", "num", True),
                                  ("{| ?0}", "{a: ?0 | ?1}", True), ("{a: ?0 | ?1}", "{| ?0}", False), ("{a: num | ?0}", "{a: num}", True)]:
            self.assertIs(is_more_general(scheme(one), scheme(other)), right, (one, other))


class CommonInstanceTest(unittest.TestCase):
    def test_common_instance(self):
        for one, other, told in [
                ("?0 -> num", "truth -> ?0", "truth -> num"), ("?0 -> ?0", "num -> truth", None), ("?0", "?0", "?0"),
                ("?0 -> ?0", "?0 -> cell ?1", "cell ?0 -> cell ?0"), ("?0 -> cell ?0", "?0 -> ?0", None), ("num", "num", "num"),
                ("{a: num | ?0}", "{b: ?0 | ?1}", "{a: num, b: ?0 | ?1}"), ("{a: num | ?0}", "{a: ?0}", "{a: num}"),
                ("{a: num | ?0}", "{b: num}", None), ("(?0, ?0, ?1)", "(?0, ?1, ?1)", "(?0, ?0, ?0)"), ("?0", "num -> ?0", "num -> ?0"),
                ("{| ?0} -> {| ?0}", "{a: ?0 | ?1} -> {b: num | ?2}", "{a: ?0, b: num | ?1} -> {a: ?0, b: num | ?1}")]:
            expected = None if told is None else scheme(told)
            self.assertEqual(common_instance(scheme(one), scheme(other)), expected, (one, other))
            self.assertEqual(common_instance(scheme(other), scheme(one)), expected, (other, one))

    def test_random_ones(self):
        chance = random.Random(3)
        some = none = 0
        for _ in range(2000):
            one, other = random_scheme(chance), random_scheme(chance, chance.choice([1, 3]))
            if chance.randrange(2):
                other = scheme_of(put(one[1], {index: NUM for index in range(one[0]) if chance.randrange(2) and index not in
                                               [part for part in range(one[0]) if ("var", part) not in frozen_vars(one[1])]}))
            apart = {index: ((), var(1000 + index)) if var(index) not in frozen_vars(other[1]) else var(1000 + index)
                     for index in range(other[0])}
            before = frozen((one, other))
            found = common_instance(one, other)
            self.assertEqual(common_instance(other, one), found)
            sub = solve([(one[1], put(other[1], apart))])
            self.assertEqual(found is None, sub is None)
            self.assertEqual(frozen((one, other)), before)
            if found is None:
                none += 1
                continue
            some += 1
            self.assertTrue(is_scheme(found))
            self.assertEqual(found, scheme_of(put(one[1], sub)))
            self.assertTrue(is_more_general(one, found) and is_more_general(other, found))
        self.assertGreater(min(some, none), 300)

    def test_the_same_twice(self):
        chance = random.Random(4)
        for _ in range(200):
            some = random_scheme(chance)
            self.assertEqual(common_instance(some, some), some)

    def too_great(self, one, other):
        for pair in ((one, other), (other, one)):
            before = frozen(pair)
            with self.assertRaises(errors.TooGreat) as caught:
                common_instance(*pair)
            self.assertEqual(caught.exception.most, 2000)
            self.assertEqual(frozen(pair), before)

    def test_parts(self):
        one = (2, ("tuple", (("of", "A", (var(0), var(1))), var(0), var(1))))
        other = lambda many: (1, ("tuple", (var(0), nums(500), nums(many))))
        told = common_instance(one, other(499))
        self.assertEqual(told[1][1][1:], (nums(500), nums(499)))
        pair = (2, ("tuple", (var(0), var(1))))
        self.assertEqual(common_instance(pair, (0, ("tuple", (nums(1000), nums(999))))), (0, ("tuple", (nums(1000), nums(999)))))
        twice = (1, ("of", "A", (var(0), var(0), var(0), NUM)))
        self.assertEqual(common_instance(twice, (2, ("of", "A", (nums(666), var(0), var(0), var(1)))))[1][2], (nums(666),) * 3 + (NUM,))
        self.too_great(twice, (2, ("of", "A", (nums(667), var(0), var(0), var(1)))))
        self.assertIsNone(common_instance(twice, (1, ("of", "A", (nums(667), var(0), var(0), TRUTH)))))

    def test_depth(self):
        cells = lambda many, inmost: inmost if many == 0 else ("cell", cells(many - 1, inmost))
        one = (2, ("tuple", (cells(50, var(0)), var(1), var(0))))
        other = lambda many: (2, ("tuple", (var(0), var(1), cells(many, NUM))))
        self.assertEqual(common_instance(one, other(48))[1][1][0], cells(98, NUM))
        self.too_great(one, other(49))

    def test_doubling(self):
        """A kind that doubles again and again, with something in it that is no instance, and without."""
        chain = ("of", "A", tuple(var(at) for at in range(41)))
        one = (41, ("of", "B", (chain, chain, var(40))))
        steps = tuple(("to", var(at + 1), var(at + 1)) for at in range(40)) + (var(41),)
        other = lambda last: scheme_of(("of", "B", (("of", "A", tuple(var(at) for at in range(41))), ("of", "A", steps), last)))
        self.too_great(one, other(var(99)))
        self.too_great(one, other(NUM))
        self.assertIsNone(common_instance(one, other(var(0))))
        self.assertIsNone(common_instance(other(("cell", var(40))), one))
        small = ("of", "A", tuple(var(at) for at in range(8)))
        self.assertEqual(common_instance((8, ("of", "B", (small, small))), scheme_of(
            ("of", "B", (small, ("of", "A", steps[:7] + (var(7),))))))[0], 1)


def frozen_vars(kind):
    """The variables that stand in a kind as kinds."""
    if kind[0] == "var":
        return {kind}
    parts = [part for _, part in kind[1]] if kind[0] == "record" else kind[1] if kind[0] == "tuple" else (
        kind[2] if kind[0] == "of" else kind[1:] if kind[0] in ("to", "cell") else ())
    return {one for part in parts for one in frozen_vars(part)}


class MatchedTest(unittest.TestCase):
    def test_matched(self):
        for one, other, lot, told in [
                ("?0 -> ?1", "num -> ?1", (0,), {0: NUM}), ("?0 -> ?1", "num -> num", (0,), None), ("?0 -> ?1", "num -> num", (0, 1), {0: NUM, 1: NUM}),
                ("?0 -> ?1", "?1 -> ?1", (0,), {0: var(1)}), ("?0 -> ?1", "?1 -> ?0", (0, 1), {0: var(1), 1: var(0)}), ("num", "num", (), {}),
                ("?0 -> ?0", "cell ?0 -> cell ?0", (0,), {0: ("cell", var(0))}), ("?0 -> ?0", "?0 -> cell ?0", (0,), None), ("?0", "?0", (), {}),
                ("?0", "?1", (), None), ("?0", "?0", (0, 5, 9), {0: var(0)}), ("num", "num", (3, 4), {}), ("num", "truth", (3,), None),
                ("?0 -> ?0", "num -> num", (), None), ("{a: ?0 | ?1}", "{a: num | ?1}", (0,), {0: NUM}), ("{a: ?0 | ?1}", "{a: num}", (0,), None),
                ("{a: ?0 | ?1}", "{a: num}", (0, 1), {0: NUM, 1: ((), None)}), ("{a: ?0 | ?1}", "{a: ?0, b: num | ?2}", (1,), {1: ((("b", NUM),), var(2))}),
                ("{a: ?0 | ?1}", "{a: ?0, b: num | ?2}", (0,), None), ("{a: ?0 | ?1}", "{a: ?0 | ?1}", (), {}), ("{a: ?0 | ?1}", "{a: ?0 | ?2}", (), None),
                ("{a: ?0 | ?1}", "{a: ?0 | ?2}", (1,), {1: ((), var(2))}), ("{a: num}", "{a: num | ?1}", (), None), ("{a: num | ?1}", "num", (1,), None),
                ("({| ?1}, {| ?1})", "({b: num}, {b: num})", (1,), {1: ((("b", NUM),), None)}), ("({| ?1}, {| ?1})", "({b: num}, {})", (1,), None),
                ("({| ?1}, {a: num | ?2})", "({| ?3}, {a: num | ?2})", (1,), {1: ((), var(3))}), ("{a: num | ?1}", "{b: num | ?2}", (1,), None)]:
            kind, target = read_kind(one), read_kind(other)
            found = matched(kind, target, lot)
            self.assertEqual(found, told, (one, other, lot))
            if found is not None:
                self.assertEqual(list(found), sorted(found))
                self.assertEqual(put(kind, found), target)
            self.assertEqual(comes_to(kind, target, lot), told is not None)

    def test_random_ones(self):
        chance = random.Random(5)
        some = none = 0
        for _ in range(3000):
            kind = random_kind(chance, 3, (0, 1, 2), (4, 77))
            standing = variables_in(kind)
            lot = tuple(index for index in range(80) if index in standing and chance.randrange(3) or index == 3)
            rests = [index for index in standing if index > 2]
            more = ((("x_1", NUM),), None)
            sub = {index: (more if index in rests else random_kind(chance, 1, (0, 1), ())) for index in standing if chance.randrange(2)}
            target = put(kind, sub) if chance.randrange(4) else random_kind(chance, 2, (0, 1, 2), (4, 77))
            before = frozen((kind, target, lot))
            found = matched(kind, target, lot)
            self.assertEqual(found is not None, comes_to(kind, target, lot))
            self.assertEqual(frozen((kind, target, lot)), before)
            if found is None:
                none += 1
                continue
            some += 1
            self.assertEqual(list(found), [index for index in lot if index in standing])
            self.assertEqual(put(kind, found), target)
            self.assertEqual(put_in(kind, found), target)
        self.assertGreater(min(some, none), 500)

    def test_great_ones(self):
        kind = ("of", "A", tuple(var(at) for at in range(1999)))
        target = ("of", "A", (NUM,) * 1999)
        self.assertEqual(matched(kind, target, tuple(range(1999))), {at: NUM for at in range(1999)})
        self.assertIsNone(matched(kind, target, tuple(range(1998))))
        self.assertEqual(matched(var(0), nums(2000), (0,)), {0: nums(2000)})
        cells = lambda many, inmost: inmost if many == 0 else ("cell", cells(many - 1, inmost))
        self.assertEqual(matched(cells(50, var(0)), cells(99, NUM), (0,)), {0: cells(49, NUM)})
        fields = tuple((f"b{at:04d}", NUM) for at in range(1999))
        self.assertEqual(matched(("record", (), var(0)), ("record", fields, None), (0,)), {0: (fields, None)})


if __name__ == "__main__":
    unittest.main()
