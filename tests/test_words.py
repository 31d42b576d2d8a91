"""[48]: words, rows, code."""

import unittest

from kindsworn.bench import Bench
from kindsworn.compiler import code_of
from kindsworn.words import content_of, immediate, is_code, is_row, is_word, sort_of
from tests.anything import STRANGE, any_values, frozen, nested, spoilt
from tests.programs import TEXTS, program

LEAST, GREATEST = -2147483648, 2147483647


class WordsTest(unittest.TestCase):
    def test_there_and_back(self):
        for sort, contents in [(0, [0, 1, -1, 7, LEAST, GREATEST]), (1, [0, 1]), (2, [0]), (3, [0, 1, 63, 10 ** 30]), (4, [0, 5, 10 ** 30])]:
            for content in contents:
                word = immediate(sort, content)
                self.assertEqual(word, 10 * content + 2 * sort + 1)
                self.assertEqual([sort_of(word), content_of(word), word % 2], [sort, content, 1])
                self.assertIs(is_word(word), True)

    def test_addresses(self):
        for address in (0, 1, 2, 9, 10 ** 30):
            self.assertEqual([sort_of(2 * address), content_of(2 * address)], [5, address])
            self.assertIs(is_word(2 * address), True)

    def test_unit(self):
        self.assertEqual([immediate(2, 0), sort_of(5), content_of(5)], [5, 2, 0])

    def test_all_near_zero(self):
        """Each odd word is one of a sort just if the sort has its content."""
        right = {2 * address for address in range(200)} | {10 * content + 1 for content in range(-60, 60)} | {3, 13, 5}
        right |= {10 * content + 7 for content in range(60)} | {10 * content + 9 for content in range(60)}
        for word in range(-400, 400):
            self.assertIs(is_word(word), word in right, word)

    def test_edges(self):
        for word, wanted in [(10 * GREATEST + 1, True), (10 * (GREATEST + 1) + 1, False), (10 * LEAST + 1, True), (10 * (LEAST - 1) + 1, False), (10 ** 39, True), (-(10 ** 39), False), (10 ** 39 + 7, True), (10 ** 39 + 9, True),
                             (10 ** 39 + 1, False), (10 ** 39 + 3, False), (10 ** 39 + 5, False), (-3, False), (-1, False), (-2, False)]:
            self.assertIs(is_word(word), wanted, word)

    def test_any_values(self):
        for thing in any_values() + STRANGE + [Bench(), True, False, (), "5", [5]]:
            told = is_word(thing)
            self.assertIsInstance(told, bool)
            self.assertIs(told, type(thing) is int and told)


ROWS = [
    ("give", 1), ("give", 13), ("give", 5), ("give", 7), ("local", 0), ("captured", 0), ("own",), ("push",), ("drop", 1), ("tell",), ("closure", 0, 0), ("tuple", 2), ("record", 0, 1), ("sibling", 0), ("make", 0), ("new",), ("get",), ("put",), ("item", 0),
    ("label", "a"), ("inside",), ("op", "+"), ("op", "-"), ("op", "*"), ("op", "<"), ("op", "="), ("go", 0), ("unless", 0), ("notnum", 0, 0), ("notnum", LEAST, 1), ("nottruth", True, 0), ("nottruth", False, 0), ("notmaker", 0, 0), ("call",), ("tail",), ("back",), ("none",)]


class RowsTest(unittest.TestCase):
    def test_right_ones(self):
        for row in ROWS + [("give", 10 * GREATEST + 1), ("give", 10 ** 30 + 7), ("local", 10 ** 39), ("drop", 10 ** 39), ("closure", 10 ** 39, 10 ** 39), ("tuple", 10 ** 39), ("record", 10 ** 39, 10 ** 39), ("notnum", GREATEST, 10 ** 39), ("go", 10 ** 39)]:
            self.assertIs(is_row(row), True, row)

    def test_wrong_ones(self):
        for row in [
                ("give", 0), ("give", 2), ("give", 9), ("give", 15), ("give", -5), ("give", True), ("give", None), ("give", (1,)), ("give", 10 * (GREATEST + 1) + 1), ("local", -1), ("local", True), ("local", "0"), ("captured", -1), ("captured", False), ("drop", 0), ("drop", -1),
                ("drop", True), ("tuple", 0), ("tuple", 1), ("tuple", True), ("record", 0, 0), ("record", -1, 1), ("record", True, 1), ("record", 0, True), ("closure", -1, 0), ("closure", 0, -1), ("closure", False, 0), ("closure", 0, False), ("closure", 0), ("sibling", -1),
                ("sibling", True), ("make", -1), ("make", "No"), ("make", False), ("item", -1), ("item", True), ("label", "A"), ("label", ""), ("label", "in"), ("label", 0), ("label", "a.b"), ("op", "/"), ("op", "+-"), ("op", ""), ("op", None), ("go", -1), ("go", True), ("unless", -1),
                ("unless", None), ("notnum", True, 0), ("notnum", GREATEST + 1, 0), ("notnum", 0, -1), ("notnum", 0, False), ("notnum", 0), ("nottruth", 1, 0), ("nottruth", 0, 0), ("nottruth", True, -1), ("nottruth", True, True), ("notmaker", "No", 0), ("notmaker", -1, 0), ("notmaker", True, 0),
                ("notmaker", 0, True), ("own", 0), ("push", None), ("back", ()), (), ("Give", 1), ("num", 1), (None,), (1,), ((),), ["own"], "own"]:
            self.assertIs(is_row(row), False, row)
        for row in ROWS:
            for other in (row + (0,), row + (None,), list(row), row[:-1] + (row,), (row,), row[1:]):
                self.assertIs(is_row(other), False, other)

    def test_lists_in_them(self):
        for row in ROWS:
            for at in range(1, len(row)):
                for other in ([row[at]], (row[at],), {row[at]: 1}, nested(20)):
                    self.assertIs(is_row(row[:at] + (other,) + row[at + 1:]), False)

    def test_any_values(self):
        for thing in any_values() + STRANGE + [Bench()]:
            self.assertIs(is_row(thing), False)


FUNCTIONS = ((0, None, ()), (3, ["any"], ("a", "b")), (35, {}, ("M.x",)))
LABELS = (("a",), ("a", "b"))
MAKERS = ("No", "M.Some")


def code(rows=tuple(ROWS), functions=FUNCTIONS, labels=LABELS, makers=MAKERS, notes=None):
    return (rows, functions, labels, makers, (None,) * len(rows) if notes is None else notes)


def names(many):
    return tuple(f"a{at:03}" for at in range(many))


class CodeTest(unittest.TestCase):
    def told(self, thing, wanted):
        before = frozen(thing)
        self.assertIs(is_code(thing), wanted, thing)
        self.assertEqual(frozen(thing), before)

    def test_right_ones(self):
        self.told(code(), True)
        self.told((((("none",),), (), (), (), ("?",))), True)
        self.told(code(notes=tuple([[], {}, None, nested(20)] + [5] * (len(ROWS) - 4))), True)
        for text, _, _ in TEXTS:
            self.told(code_of(program(text)), True)

    def with_row(self, row):
        """The code with one more row."""
        return code(tuple(ROWS) + (row,))

    def test_what_is_just_there_and_just_beyond(self):
        many = len(ROWS) + 1
        for row, wanted in [
                (("go", many - 1), True), (("go", many), False), (("unless", many - 1), True), (("unless", many), False), (("notnum", 0, many - 1), True), (("notnum", 0, many), False), (("nottruth", True, many - 1), True), (("nottruth", True, many), False),
                (("notmaker", 1, many - 1), True), (("notmaker", 1, many), False), (("notmaker", 2, 0), False), (("make", 1), True), (("make", 2), False), (("give", 17), True), (("give", 27), False), (("closure", 1, 2), True), (("closure", 2, 1), True), (("closure", 3, 0), False),
                (("closure", 1, 1), False), (("closure", 1, 3), False), (("closure", 0, 1), False), (("sibling", 2), True), (("sibling", 3), False), (("record", 1, 2), True), (("record", 2, 2), False), (("record", 1, 1), False), (("record", 0, 2), False), (("tuple", 255), True),
                (("tuple", 256), True), (("tuple", 10 ** 39), True), (("tuple", 1), False), (("local", 10 ** 9), True), (("item", 10 ** 9), True), (("captured", 256), True), (("drop", 256), True), (("give", 1000001), True), (("label", "zz"), True)]:
            self.told(self.with_row(row), wanted)

    def test_any_number_of_fields(self):
        """How many fields there would be is not asked, just whether as many are told as there are names or labels."""
        for many in (2, 254, 255, 256, 257, 300, 1000):
            self.told(code((("none",), ("tuple", many)), ()), True)
            functions = ((0, None, names(many)),)
            self.told(code((("none",), ("closure", 0, many), ("sibling", 0)), functions), True)
            self.told(code((("none",), ("record", 0, many)), (), (names(many),)), True)
            for other in (many - 1, many + 1, many - 256, many + 256):
                self.told(code((("none",), ("closure", 0, other)), functions), False)
                self.told(code((("none",), ("record", 0, other)), (), (names(many),)), False)
        for many in (1, 0, -1, -300, True, None, "300", (300,), 300.0):
            self.told(code((("none",), ("tuple", many)), ()), False)

    def test_functions(self):
        for function, wanted in [
                ((0, None, ()), True), ((36, None, ()), True), ((37, None, ()), False), ((-1, None, ()), False), ((True, None, ()), False), ((None, None, ()), False), ((0, None, ("b", "a")), False), ((0, None, ("a", "a")), False), ((0, None, ("M.a", "a")), True), ((0, None, ("A",)), False),
                ((0, None, ("let",)), False), ((0, None, ["a"]), False), ((0, None, None), False), ((0, None), False), ((0, None, (), ()), False), ([0, None, ()], False), (None, False)]:
            self.told(code(functions=FUNCTIONS + (function,)), wanted)
        self.assertEqual(len(ROWS), 37)

    def test_labels_and_makers(self):
        for labels, wanted in [(LABELS + (("b",),), True), (LABELS + (("a",),), False), (LABELS + ((),), False), (LABELS + (("b", "a"),), False), (LABELS + (("a", "a"),), False), (LABELS + (("A",),), False), (LABELS + ("a",), False), (LABELS + (["b"],), False), (LABELS + (None,), False), (LABELS[:0], False)]:
            self.told(code(labels=labels), wanted)
        for makers, wanted in [(MAKERS + ("A",), True), (MAKERS + ("No",), False), (MAKERS + ("a",), False), (MAKERS + ("A.b",), False), (MAKERS + (None,), False), (MAKERS + (["A"],), False), (MAKERS[:1], True), (MAKERS[:0], False)]:
            self.told(code(makers=makers), wanted)

    def test_notes(self):
        self.told(code(notes=(None,) * (len(ROWS) - 1)), False)
        self.told(code(notes=(None,) * (len(ROWS) + 1)), False)
        self.told(code(notes=[None] * len(ROWS)), False)

    def test_parts(self):
        self.told(code(rows=(), functions=()), False)
        for at in range(5):
            self.told(code()[:at] + code()[at + 1:], False)
            self.told(code()[:at] + ((),) + code()[at:], False)
            self.told(code()[:at] + (list(code()[at]),) + code()[at + 1:], False)
            self.told(code()[:at] + (None,) + code()[at + 1:], False)
        self.told(list(code()), False)

    def test_any_values(self):
        for thing in any_values() + STRANGE + [Bench(), (Bench(),) * 5]:
            self.told(thing, False)

    def test_spoilt_ones(self):
        """Whatever is exchanged, something is told, and what is told right has rows that are."""
        one = (((("give", 7), ("closure", 0, 1), ("record", 0, 1))), ((2, None, ("a",)),), (("a",),), ("No",), (1, 2, 3))
        self.told(one, True)
        for other in spoilt(one):
            told = is_code(other)
            self.assertIsInstance(told, bool)
            if told:
                self.assertTrue(all([is_row(row) for row in other[0]]) and len(other[0]) == len(other[4]))
        for at in range(4):
            for other in spoilt(one[at]):
                if other != one[at]:
                    rows = is_code(one[:at] + (other,) + one[at + 1:])
                    self.assertIsInstance(rows, bool)


if __name__ == "__main__":
    unittest.main()
