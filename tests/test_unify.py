"""[24]: kinds made the same."""

import random
import unittest

from kindsworn import errors
from kindsworn.kinds import is_substitution, put_in
from kindsworn.reader import read_kind
from kindsworn.shapes import variable_uses
from kindsworn.unify import first_clash, is_unifier, unify
from tests.anything import any_values, frozen, spoilt
from tests.plain import alike_text, all_variables, put, put_thing, solve, variables
from tests.samples import random_kind

NUM, TRUTH = ("num",), ("truth",)


def var(index):
    return ("var", index)


def told(*texts):
    """The pairs of kinds that texts with a sign = tell."""
    return [tuple(read_kind(side) for side in text.split("=")) for text in texts]


def doubling(many):
    """Pairs by which ?0 is a kind that doubles so many times."""
    return [(var(at), ("to", var(at + 1), var(at + 1))) for at in range(many)]


def images(pairs, sub):
    """What comes for all variables of pairs when a substitution is put in."""
    rests = {index for pair in pairs for kind in pair for index, labels in variable_uses(kind) if labels is not None}
    return [put_thing(((), var(index)) if index in rests else var(index), sub) for index in all_variables(pairs)]


def random_pairs(chance):
    kind = lambda room: random_kind(chance, room, (0, 1, 2, 9), chance.choice([(4, 5, 6, 77), (4, 8, 12, 5), (5, 13)]))
    return [(kind(chance.choice([0, 1, 2, 3])), kind(chance.choice([1, 2, 3]))) for _ in range(chance.choice([1, 1, 2, 3]))]


class UnifyTest(unittest.TestCase):
    def right(self, pairs):
        """That what unify tells is right; whether there is a unifier."""
        before = frozen(pairs)
        found, other = unify(pairs), solve(pairs)
        self.assertEqual(found is None, other is None, pairs)
        self.assertEqual(unify(tuple(pairs)), found)
        self.assertEqual(frozen(pairs), before)
        if found is None:
            return False
        self.assertTrue(is_substitution(found))
        self.assertEqual(list(found), sorted(found))
        standing = all_variables(pairs)
        self.assertLessEqual(set(found), set(standing))
        within = {index for thing in found.values()
                  for index in variables(thing if isinstance(thing[0], str) else ("record",) + thing)}
        self.assertFalse(within & set(found))
        new = sorted(within - set(standing))
        least = max([-1] + standing) + 1
        self.assertEqual(new, list(range(least, least + len(new))))
        for one, another in pairs:
            self.assertEqual(put(one, found), put(another, found))
        self.assertEqual(alike_text(images(pairs, found)), alike_text(images(pairs, other)))
        self.assertIs(is_unifier(pairs, found), True)
        return True

    def test_right_ones(self):
        for texts in [["?0 = num"], ["num = num"], ["?0 = ?1"], ["?0 = ?0"], ["?1 = ?0", "?2 = ?1", "?0 = cell ?3"],
                      ["{a: num | ?0} = {b: truth | ?1}"], ["{a: num | ?0} = {a: ?2}"], ["{| ?0} = {}"],
                      ["{| ?0} = {| ?1}"], ["{a: ?3 | ?0} = {a: num | ?0}"], ["{| ?0} = {a: num, b: truth | ?1}"],
                      ["{a: num | ?0} = {b: truth | ?1}", "{a: num | ?0} = {c: ?5 | ?2}", "{a: num | ?0} = {b: ?6 | ?3}"],
                      ["{a: num | ?0} = {b: truth | ?1}", "{a: num | ?0} = {a: num, b: truth}"],
                      ["{a: ?2 | ?0} = {a: ?3 | ?1}", "{a: ?2 | ?0} = {a: truth, c: num | ?4}"],
                      ["?0 -> ?1 = (?1 -> ?2) -> ?3"], ["List ?0 ?1 = List num (cell ?0)"], ["() = ()"],
                      ["{a: num | ?0} = ?7", "{b: truth | ?1} = ?7"], ["(?0, ?1, ?2) = (?1, ?2, num)"], []]:
            self.assertTrue(self.right(told(*texts)), texts)

    def test_none(self):
        for texts in [["num = truth"], ["?0 = cell ?0"], ["?0 = ?1 -> num", "?1 = (?0, ?0)"], ["() = (num, num)"],
                      ["(num, num) = (num, num, num)"], ["List num = Opt num"], ["List num = List num num"],
                      ["{a: num} = {b: num}"], ["{a: num} = {}"], ["{a: num} = {a: num, b: num}"], ["{a: num | ?0} = {}"],
                      ["{a: num | ?0} = {b: num}"], ["{a: num | ?0} = {a: truth | ?1}"], ["{a: num | ?0} = cell ?1"],
                      ["?1 = {a: num | ?0}", "{a: num | ?0} = {a: num, b: cell ?1 | ?2}"], ["{| ?0} = ?1", "{| ?0} = {a: ?1}"],
                      ["?0 = cell ?1", "?1 = cell ?2", "?2 = cell ?0"], ["cell ?0 = ?0"], ["num = ()"],
                      ["{a: num | ?0} = {b: truth | ?1}", "{a: num | ?0} = {c: ?2}"],
                      ["{a: num | ?0} = {a: num, b: {a: num | ?0} | ?1}"], ["?0 = ?1", "num = ?0", "?1 = truth"]]:
            self.assertFalse(self.right(told(*texts)), texts)

    def test_random_ones(self):
        chance = random.Random(24)
        fine = [self.right(random_pairs(chance)) for _ in range(3000)]
        self.assertGreater(fine.count(True), 400)
        self.assertGreater(fine.count(False), 400)

    def test_what_is_told_may_be_changed(self):
        pairs = told("?0 = num")
        unify(pairs)[0] = TRUTH
        self.assertEqual(unify(pairs), {0: NUM})

    def test_new_variables(self):
        self.assertEqual(unify(told("{a: num | ?3} = {b: truth | ?7}")),
                         {3: ((("b", TRUTH),), var(8)), 7: ((("a", NUM),), var(8))})
        found = unify(told("{a: num | ?3} = {b: truth | ?7}", "{c: num | ?4} = {b: num | ?12}"))
        self.assertEqual({found[3][1], found[4][1]}, {var(13), var(14)})
        self.assertEqual(unify(told("{a: num | ?0} = {b: truth | ?1}", "{a: num | ?0} = {a: num, b: ?3 | ?2}"))[0],
                         ((("b", TRUTH),), var(2)))
        great = 10 ** 39
        pairs = [(("record", (("a", NUM),), var(great)), ("record", (("b", NUM),), var(1)))]
        self.assertEqual(unify(pairs)[1], ((("a", NUM),), var(great + 1)))


class FirstClashTest(unittest.TestCase):
    def plainly(self, pairs):
        for index in range(len(pairs)):
            if solve(pairs[:index + 1]) is None:
                return index
        return None

    def test_right_ones(self):
        self.assertIsNone(first_clash([]))
        self.assertIsNone(first_clash(()))
        self.assertEqual(first_clash(told("num = truth")), 0)
        self.assertEqual(first_clash(told("?0 = ?1", "?1 = cell ?2", "?2 = ?0", "num = truth")), 2)
        self.assertEqual(first_clash(told("?0 = ?1", "?1 = cell ?2", "num = truth", "?2 = ?0")), 2)

    def test_random_ones(self):
        chance = random.Random(25)
        met = {}
        for _ in range(400):
            pairs = [pair for _ in range(chance.randrange(5)) for pair in random_pairs(chance)[:1]]
            pairs = [pair for pair in pairs if solve([pair]) is not None or chance.randrange(3) == 0]
            before = frozen(pairs)
            index = first_clash(pairs)
            self.assertEqual(index, self.plainly(pairs))
            self.assertEqual(frozen(pairs), before)
            met[index] = met.get(index, 0) + 1
        self.assertGreater(min(met.get(index, 0) for index in (None, 0, 1, 2)), 2)

    def test_great_ones(self):
        chain = doubling(40)
        self.assertIsNone(first_clash(chain))
        self.assertEqual(first_clash(chain + [(var(0), NUM)] + chain), 40)
        self.assertEqual(first_clash(chain + [(var(40), var(0))]), 40)
        self.assertEqual(first_clash(chain + [(var(39), var(38)), (NUM, NUM)]), 40)
        other = [(var(100 + one[1]), put(kind, {at: var(100 + at) for at in range(50)})) for one, kind in chain]
        self.assertIsNone(first_clash(chain + other + [(var(0), var(100))]))
        self.assertEqual(first_clash(chain + other + [(var(0), var(100)), (var(40), NUM), (var(140), TRUTH)]), 82)
        long = [(var(at), ("cell", var(at + 1))) for at in range(2000)]
        self.assertIsNone(first_clash(long))
        self.assertEqual(first_clash(long + [(var(2000), var(1999))]), 2000)


class IsUnifierTest(unittest.TestCase):
    def plainly(self, pairs, sub):
        for pair in pairs:
            for kind in pair:
                for index, labels in variable_uses(kind):
                    if index in sub and isinstance(sub[index][0], str) != (labels is None):
                        return False
                    if index in sub and labels is not None and set(labels) & set(dict(sub[index][0])):
                        return False
        return all(put(one, sub) == put(other, sub) for one, other in pairs)

    def test_any_value(self):
        for pairs in ([], told("num = num"), told("?0 = num"), told("num = truth"), told("{a: num | ?0} = {a: num}")):
            for value in any_values():
                before = frozen(value)
                expected = is_substitution(value) and self.plainly(pairs, value)
                self.assertIs(is_unifier(pairs, value), expected, before[:80])
                self.assertEqual(frozen(value), before)

    def test_places_where_keys_can_stand(self):
        rest = told("{a: num | ?0} = {a: num, b: truth}")
        kind = told("?0 = {}")
        row = ((("b", TRUTH),), None)
        for pairs, sub, right in [
                (rest, {0: row}, True), (rest, {0: ("record",) + row}, False), (rest, {0: row, 7: NUM, 8: row}, True),
                (rest, {0: ((("a", NUM), ("b", TRUTH)), None)}, False), (rest, {0: ((("a", NUM),), None)}, False),
                (rest, {}, False), (rest, {0: ((("b", TRUTH),), var(0))}, False), (rest, {True: row}, False),
                (kind, {0: ("record", (), None)}, True), (kind, {0: ((), None)}, False), (kind, {0: var(0)}, False),
                ([], {0: ((), None)}, True), ([], {0: NUM}, True), (told("?0 = ?1"), {0: var(1)}, True),
                (told("?0 = ?1"), {0: var(1), 1: var(0)}, False), (told("?0 = ?1"), {0: NUM, 1: NUM}, True),
                (told("{| ?0} = {| ?1}"), {0: ((), var(1))}, True), (told("{| ?0} = {| ?1}"), {0: var(1)}, False),
                (told("{a: num | ?0} = {a: num | ?0}"), {0: ((("a", NUM),), None)}, False),
                (told("{a: num | ?0} = {b: num | ?1}"), {0: ((("b", NUM),), var(0)), 1: ((("a", NUM),), var(0))}, True)]:
            self.assertIs(is_unifier(pairs, sub), right, (pairs, sub))
            self.assertEqual(self.plainly(pairs, sub) and is_substitution(sub) and True not in [key is True for key in sub],
                             right)

    def test_one_place_otherwise(self):
        pairs = told("?0 -> {a: ?1 | ?2} = (num -> ?3) -> {a: truth, b: ?4}")
        found = unify(pairs)
        self.assertIs(is_unifier(pairs, found), True)
        many = 0
        for key in found:
            for other in spoilt(found[key]):
                sub = {**found, key: other}
                expected = is_substitution(sub) and self.plainly(pairs, sub)
                self.assertIs(is_unifier(pairs, sub), expected)
                many += expected
            self.assertIs(is_unifier(pairs, {one: found[one] for one in found if one != key}), False)
        self.assertGreater(many, 0)

    def test_random_ones(self):
        chance = random.Random(26)
        right = 0
        for _ in range(1500):
            pairs = random_pairs(chance)
            found = unify(pairs)
            if found is None:
                continue
            sub = {key: put_thing(thing, {0: NUM, 9: ("cell", var(3))}) for key, thing in found.items()}
            if chance.randrange(2):
                sub[chance.choice([0, 1, 2, 9])] = random_kind(chance, 1, (0, 1), ())
            expected = is_substitution(sub) and self.plainly(pairs, sub)
            self.assertIs(is_unifier(pairs, sub), expected)
            right += expected
        self.assertGreater(right, 100)

    def test_great_ones(self):
        wide = ("of", "A", tuple(var(at) for at in range(60)) * 33)
        great = ("of", "B", (NUM,) * 1999)
        sub = {at: great for at in range(60)}
        pairs = [(wide, wide), (wide, ("of", "A", (great,) + wide[2][1:]))] * 30
        self.assertIs(is_unifier(pairs, sub), True)
        self.assertIs(is_unifier(pairs + [(wide, put_in(wide, {5: NUM}))], sub), False)
        chain = doubling(40)
        self.assertIs(is_unifier(chain, {}), False)
        self.assertIs(is_unifier(chain[:8], solve(chain[:8])), True)


class TooGreatTest(unittest.TestCase):
    def too_great(self, pairs):
        before = frozen(pairs)
        with self.assertRaises(errors.TooGreat) as caught:
            unify(pairs)
        self.assertEqual(caught.exception.most, 2000)
        self.assertEqual(frozen(pairs), before)

    def test_parts(self):
        great = ("of", "A", (NUM,) * 998)
        pair = (var(0), ("of", "B", (var(1), var(2))))
        self.assertEqual(len(unify([pair, (var(1), great), (var(2), great)])), 3)
        self.assertEqual(len(unify([(var(0), ("of", "B", (var(1), var(2), NUM))), (var(1), great), (var(2), great)])), 3)
        self.too_great([(var(0), ("of", "B", (var(1), var(2), NUM, NUM))), (var(1), great), (var(2), great)])

    def test_parts_of_rows(self):
        fields = lambda sign, many: tuple((f"{sign}{at:04d}", NUM) for at in range(many))
        one = ("record", (("a", NUM),), var(0))
        self.assertEqual(len(unify([(one, ("record", (("a", NUM),) + fields("b", 1998), None))])[0][0]), 1998)
        many = ("record", fields("c", 1000), var(1))
        more = ("record", fields("b", 1000), var(2))
        found = unify([(one, many), (one, more)])
        self.assertEqual(len(found[0][0]), 2000)
        more = ("record", fields("b", 1001), var(2))
        self.too_great([(one, many), (one, more)])
        # The kinds are too great where a row stands in a record, while the row is not.
        self.too_great([(var(9), one), (one, many), (one, ("record", fields("b", 1000), var(2)))])

    def test_depth(self):
        cells = lambda many, inmost: inmost if many == 0 else ("cell", cells(many - 1, inmost))
        self.assertEqual(unify([(var(0), cells(50, var(1))), (var(1), cells(49, NUM))])[0], cells(99, NUM))
        self.too_great([(var(0), cells(50, var(1))), (var(1), cells(50, NUM))])
        self.assertEqual(unify([(var(0), cells(50, var(1))), (var(1), cells(49, var(2)))])[0], cells(99, var(2)))
        record = ("record", (("a", var(1)),), var(0))
        other = lambda depth: ("record", (("b", cells(depth, var(1))),), var(2))
        self.assertEqual(unify([(record, other(49)), (var(1), cells(50, NUM))])[0][0], (("b", cells(99, NUM)),))
        self.too_great([(record, other(50)), (var(1), cells(50, NUM))])

    def test_doubling(self):
        self.assertEqual(len(unify(doubling(9))), 9)
        self.assertEqual(unify(doubling(9))[8], ("to", var(9), var(9)))
        self.too_great(doubling(10))
        self.too_great(doubling(40))
        self.assertIsNone(unify(doubling(40) + [(var(0), NUM)]))
        self.assertIsNone(unify(doubling(40) + [(var(40), var(3))]))
        self.assertIsNone(unify(doubling(40) + [(NUM, TRUTH)]))
        self.assertIsNone(unify([(NUM, TRUTH)] + doubling(40)))
        # Between two that are told nothing is too great, if it stands in neither.
        great = doubling(9)[1:] + [(var(20), ("to", var(1), var(1)))]
        self.assertEqual(len(unify(great)), 9)
        self.too_great(great + [(var(21), ("to", var(20), var(20)))])


if __name__ == "__main__":
    unittest.main()
