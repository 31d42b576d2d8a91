"""[15]: words."""

import unittest

from kindsworn.errors import NoText, Wrong
from kindsworn.forms import BARRED
from kindsworn.wordsof import words_of
from tests.anything import any_values, frozen


def just_words(text):
    return [word for word, _, _ in words_of(text)]


class WordsTest(unittest.TestCase):
    def fails(self, text, line, column):
        with self.assertRaises(NoText, msg=text) as caught:
            words_of(text)
        self.assertEqual((caught.exception.line, caught.exception.column), (line, column), text)

    def test_nothing(self):
        for text in ("", " ", "\n", "\n\n  \n", "# a remark", "#", " # ( ~ @\n#\n", "##"):
            self.assertEqual(words_of(text), [])

    def test_places(self):
        self.assertEqual(words_of("let x =\n ~5in List.map # a remark\n\n  )"),
                         [("let", 0, 0), ("x", 0, 4), ("=", 0, 6), ("~5", 1, 1), ("in", 1, 3), ("List.map", 1, 6),
                          (")", 3, 2)])
        self.assertEqual(words_of("a#b\nc"), [("a", 0, 0), ("c", 1, 0)])

    def test_signs(self):
        signs = ["->", "-", "=", "<", "+", "*", "(", ")", "{", "}", ",", ".", "|", ":", "_"]
        self.assertEqual(just_words(" ".join(signs)), signs)
        self.assertEqual(just_words("->-=<+*(){},.|:_"), signs)
        self.assertEqual(just_words("-->"), ["-", "->"])
        self.assertEqual(just_words("==a->b"), ["=", "=", "a", "->", "b"])

    def test_names(self):
        self.assertEqual(just_words("x X xY_9 Xy "), ["x", "X", "xY_9", "Xy"])
        self.assertEqual(just_words("a" * 20 + " " + "A" * 20), ["a" * 20, "A" * 20])
        self.assertEqual(just_words("_x"), ["_", "x"])
        self.assertEqual(just_words("x_ letx let"), ["x_", "letx", "let"])
        self.assertEqual(just_words(" ".join(BARRED)), list(BARRED))
        self.assertEqual(just_words("5x"), ["5", "x"])
        self.assertEqual(just_words("5X.y"), ["5", "X.y"])

    def test_points(self):
        self.assertEqual(just_words("List.map List.Cons"), ["List.map", "List.Cons"])
        self.assertEqual(just_words("A.B.C.d"), ["A.B", ".", "C.d"])
        self.assertEqual(just_words("A.b.c"), ["A.b", ".", "c"])
        self.assertEqual(just_words("a.b.C"), ["a", ".", "b", ".", "C"])
        self.assertEqual(just_words("A.B.let"), ["A.B", ".", "let"])
        self.assertEqual(just_words("x.let"), ["x", ".", "let"])
        self.assertEqual(just_words("A. b A .b A._ A.1 A.(A."),
                         ["A", ".", "b", "A", ".", "b", "A", ".", "_", "A", ".", "1", "A", ".", "(", "A", "."])
        self.assertEqual(just_words("A.\nb"), ["A", ".", "b"])
        self.assertEqual(just_words("A#\n.b"), ["A", ".", "b"])
        self.assertEqual(just_words("1.a"), ["1", ".", "a"])
        self.assertEqual(just_words("A" * 20 + "." + "b" * 20), ["A" * 20 + "." + "b" * 20])

    def test_numbers(self):
        words = ["0", "7", "10", "~1", "2147483647", "~2147483648", "~2147483647"]
        self.assertEqual(just_words(" ".join(words)), words)
        self.assertEqual(just_words("1~1"), ["1", "~1"])
        self.assertEqual(just_words("1-1"), ["1", "-", "1"])
        for text in ("00", "01", "~0", "~01", "~00", "2147483648", "~2147483649", "9" * 11, "9" * 3000, "~" + "9" * 2999,
                     "0" * 3000, "10000000000", "012"):
            self.fails(text, 0, 0)
            self.fails("x\n (" + text, 1, 2)
        for text in ("~", "~ 5", "~x", "~~5", "~-5", "~?"):
            self.fails(text, 0, 0)

    def test_variables(self):
        words = ["?0", "?7", "?10", "?999999999", "?123456789"]
        self.assertEqual(just_words("".join(words)), words)
        self.assertEqual(just_words("?1x?2"), ["?1", "x", "?2"])
        for text in ("?", "? 0", "?x", "?00", "?01", "?1000000000", "?1234567890", "?" + "1" * 2999, "??1", "?~1"):
            self.fails(text, 0, 0)
            self.fails("a # ?\nb  " + text + " )", 1, 3)

    def test_no_word_begins(self):
        for sign in "!\"$%&'/;>@[\\]^`\t\r\u00e9\x00":
            self.fails(sign, 0, 0)
            self.fails("a b" + sign, 0, 3)
            self.fails("a\n\n b # !\n  c" + sign + "~", 3, 3)
        self.assertEqual(just_words("a # !\"$%&'/;>@[\\]^`~?"), ["a"])

    def test_names_that_are_too_long(self):
        self.fails("a" * 21, 0, 0)
        self.fails("x" * 3000, 0, 0)
        self.fails("A" * 21, 0, 0)
        self.fails(" \n  A" + "b" * 20, 1, 2)
        self.fails("A" * 21 + ".b", 0, 0)
        self.fails("A." + "b" * 21, 0, 2)
        self.fails("x\n  Abc." + "B" * 21, 1, 6)
        self.fails("A" * 21 + "." + "b" * 21, 0, 0)
        self.fails("A" * 21 + ".let", 0, 0)

    def test_barred_words_behind_a_point(self):
        for word in BARRED:
            self.fails("List." + word, 0, 5)
            self.fails("x\n A." + word + " y", 1, 3)
            self.assertEqual(just_words("A." + word + "_"), ["A." + word + "_"])

    def test_the_first_fault_is_told(self):
        self.fails("~0 !", 0, 0)
        self.fails("a ! ~0", 0, 2)
        self.fails("A.let !", 0, 2)
        self.fails("!\n~0", 0, 0)

    def test_wrong(self):
        for value in any_values():
            if not isinstance(value, str):
                before = frozen(value)
                with self.assertRaises(Wrong) as caught:
                    words_of(value)
                self.assertEqual(caught.exception.place, 0)
                self.assertEqual(frozen(value), before)

    def test_what_is_told_is_new(self):
        told = words_of("a b")
        told.append(1)
        told[0] = None
        self.assertEqual(words_of("a b"), [("a", 0, 0), ("b", 0, 2)])
        self.assertIsNot(words_of("a"), words_of("a"))


if __name__ == "__main__":
    unittest.main()
