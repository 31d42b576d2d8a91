"""[65], [66]: the bench."""

import random
import unittest

from kindsworn import errors
from kindsworn.bench import Bench, run_at, scheme_at, verdict
from kindsworn.checker import scheme_of_program
from kindsworn.joining import joined, whose
from kindsworn.lots import least_lot
from kindsworn.moduletexts import read_modules, show_modules
from kindsworn.schemes import is_more_general
from kindsworn.sidebyside import ends_alike
from kindsworn.taking import taken
from tests.anything import STRANGE, any_values, frozen
from tests.test_checker import scheme

LIST = "module List kind List ?0 = Nil | Cons (?0, List ?0) let one = fn x -> Cons (x, Nil) rec length = fn l -> match l with | Nil -> 0 | Cons (_, t) -> 1 + length t end give one, length, kind List *"
MAIN = "module Main use List let main = List.length (List.one true)"
SAME, NUMS = scheme("?0 -> ?0"), scheme("num -> num")


def bench(*texts):
    made = Bench()
    for text in texts:
        made.put(text)
    return made


def state(one):
    """All that can be told of a bench."""
    return frozen((one.texts(), one.oaths()))


class BenchTest(unittest.TestCase):
    def raises(self, one, call, wanted, *fields):
        """That a call raises an error, and nothing has changed, nor can more be taken back."""
        before, past = state(one), len(past_of(one))
        with self.assertRaises(errors.SwornError) as caught:
            call()
        self.assertIs(type(caught.exception), wanted)
        self.assertEqual(tuple(vars(caught.exception).values()), fields)
        self.assertEqual([state(one), len(past_of(one))], [before, past])

    def test_empty(self):
        one = Bench()
        self.assertEqual([one.texts(), one.oaths(), one == Bench(), one != Bench()], [{}, [], True, False])
        self.raises(one, one.undo, errors.Nothing)

    def test_put_and_texts(self):
        one = Bench()
        self.assertIsNone(one.put(MAIN + "\n" + LIST))
        self.assertEqual(list(one.texts()), ["List", "Main"])
        for text in (LIST, MAIN):
            module = read_modules(text)
            self.assertEqual(one.texts()[module[0][0]], show_modules(module))
        one.put("module Main let main = 5")
        self.assertEqual([list(one.texts()), one.texts()["Main"]], [["List", "Main"], "module Main\nlet main = 5"])
        one.put("module Z module B module A")
        self.assertEqual(list(one.texts()), ["A", "B", "List", "Main", "Z"])
        told = one.texts()
        told.clear()
        self.assertEqual(list(one.texts()), ["A", "B", "List", "Main", "Z"])

    def test_put_raises(self):
        one = bench(LIST, MAIN)
        for text, line, column in [("", 0, 0), ("module", 0, 6), ("module M let x = in", 0, 17), ("module M\nlet x = 2147483648", 1, 8), ("module M module", 0, 15)]:
            self.raises(one, lambda: one.put(text), errors.NoText, line, column)
        self.raises(one, lambda: one.put("module M module B module M module B"), errors.Twice, "B", "B")
        self.raises(one, lambda: one.put("module M module M let"), errors.NoText, 0, 21)
        self.raises(one, lambda: one.put("module List module List"), errors.Twice, "List", "List")

    def test_take(self):
        one = bench(LIST, MAIN)
        self.assertIsNone(one.take("List"))
        self.assertEqual(list(one.texts()), ["Main"])
        self.raises(one, lambda: one.take("List"), errors.NoModule, "List", "List")
        self.raises(one, lambda: one.take("Q"), errors.NoModule, "Q", "Q")
        one.take("Main")
        self.assertEqual(one.texts(), {})

    def test_swear_and_free(self):
        one = bench("module M let id = fn x -> x let n = 5 give id, n")
        oaths = [("M.id", SAME), ("M.id", NUMS), ("M.n", scheme("num")), ("M.id", SAME)]
        for at, oath in enumerate(oaths):
            self.assertIsNone(one.swear(*oath))
            self.assertEqual(frozen(one.oaths()), frozen(oaths[:at + 1]))
        told = one.oaths()
        told.clear()
        self.assertEqual(one.oaths(), oaths)
        for index in (4, 5, -1, -4, 10 ** 39):
            self.raises(one, lambda: one.free(index), errors.NoIndex, index)
        self.assertIsNone(one.free(1))
        self.assertEqual(one.oaths(), oaths[:1] + oaths[2:])
        one.free(2)
        one.free(0)
        one.free(0)
        self.raises(one, lambda: one.free(0), errors.NoIndex, 0)

    def test_broken_by_swear(self):
        one = bench("module M let id = fn x -> x let inc = fn n -> n + 1 let bad = 1 1 give id, inc", "module Bad let x = 1 true let y = 2 give x, y", "module Lost use No let x = 1 give x")
        bad = bench("module M let id = fn x -> x let inc = fn n -> n + 1 give id, inc", "module Bad let x = 1 true let y = 2 give x, y", "module Lost use No let x = 1 give x", "module Half let half = fn x -> match x with | 1 -> 2 end let no = 3 give half")
        self.assertIsNone(bad.swear("M.inc", NUMS))
        self.assertIsNone(bad.swear("Half.half", NUMS))
        for at, (name, told) in enumerate([("M.inc", SAME), ("M.id", scheme("num")), ("M.id", scheme("?0 -> ?1")), ("M.other", NUMS), ("Other.x", NUMS), ("Bad.y", scheme("num")), ("Bad.x", scheme("num")), ("Lost.x", scheme("num")), ("Half.no", scheme("num"))]):
            self.raises(bad, lambda: bad.swear(name, told), errors.Broken, 2)
        self.raises(one, lambda: one.swear("M.id", SAME), errors.Broken, 0)

    def test_broken_by_put_and_take(self):
        one = bench("module L let id = fn x -> x give id", "module M use L let id = L.id give id", "module N let n = 1 give n")
        for oath in [("N.n", scheme("num")), ("M.id", NUMS), ("L.id", SAME), ("N.n", scheme("num"))]:
            one.swear(*oath)
        for text, index in [
                ("module L let id = fn x -> x + 1 give id", 2), ("module L let id = fn x -> true give id", 1), ("module L let id = fn x -> x", 1), ("module L let id = 1 1 give id", 1), ("module L give id", 1), ("module N let n = true give n", 0), ("module N let n = true give n module L", 0),
                ("module L use Gone let id = fn x -> x give id", 1), ("module L use M let id = fn x -> x give id", 1), ("module M let id = 5 give id", 1), ("module L let id = fn x -> x let id = fn x -> x give id", 1), ("module M kind K = K K let id = fn x -> x give id", 1)]:
            self.raises(one, lambda: one.put(text), errors.Broken, index)
        for name, index in [("L", 1), ("M", 1), ("N", 0)]:
            self.raises(one, lambda: one.take(name), errors.Broken, index)
        one.put("module L let id = fn x -> x let more = 1 give id, more")
        one.put("module M let id = fn n -> n + 1 give id")
        self.raises(one, lambda: one.take("L"), errors.Broken, 2)
        one.free(2)
        self.assertIsNone(one.take("L"))
        self.raises(one, lambda: one.put("module M let id = fn x -> true give id module N"), errors.Broken, 0)

    def test_more_general_is_kept(self):
        one = bench("module M let f = fn x -> x + 1 give f")
        one.swear("M.f", NUMS)
        one.put("module M let f = fn x -> x give f")
        one.swear("M.f", SAME)
        self.raises(one, lambda: one.put("module M let f = fn x -> x + 1 give f"), errors.Broken, 1)
        one.put("module M rec f = fn x -> f x give f")
        self.assertEqual(scheme_at(one, "M.f"), scheme("?0 -> ?1"))

    def test_what_is_too_great(self):
        great = "module M let x0 = 1 " + " ".join(f"let x{at} = (x{at - 1}, x{at - 1})" for at in range(1, 12)) + " give x0, x11"
        one = bench(great)
        self.assertEqual([scheme_at(one, "M.x0"), scheme_at(one, "M.x11")], [None, None])
        self.raises(one, lambda: one.swear("M.x0", scheme("num")), errors.Broken, 0)
        self.assertEqual(verdict(bench(great.replace("give", "let main = 1 give")), "M"), ("great",))

    def test_wrong(self):
        one = bench(LIST, MAIN)
        one.swear("List.length", (0, ("to", ("of", "List.List", (("num",),)), ("num",))))
        for thing in any_values() + STRANGE + [Bench(), errors.Nothing()]:
            if type(thing) is not str:
                self.raises(one, lambda: one.put(thing), errors.Wrong, 0)
            if not (type(thing) is str and thing[:1].isupper() and thing.isalnum() and len(thing) <= 20):
                self.raises(one, lambda: one.take(thing), errors.Wrong, 0)
            if not (type(thing) is str and thing in ("X.y",)):
                self.raises(one, lambda: one.swear(thing, SAME), errors.Wrong, 0)
                self.raises(one, lambda: one.swear(thing, thing), errors.Wrong, 0)
            if not (type(thing) is tuple and thing == (0, ("num",)) and type(thing[0]) is int):
                self.raises(one, lambda: one.swear("List.one", thing), errors.Wrong, 1)
            if type(thing) is not int:
                self.raises(one, lambda: one.free(thing), errors.Wrong, 0)
        for name in ("list", "List.List", "List.one", "", "List.", "in", "L" * 21, "List\n", None, True):
            self.raises(one, lambda: one.take(name), errors.Wrong, 0)
        for name in ("List", "one", "List.List", "list.one", "List.in", "List.one.two", ".one", "List.", None, True, ("List.one",)):
            self.raises(one, lambda: one.swear(name, None), errors.Wrong, 0)
        for told in (("num",), (1, ("num",)), (0, ("var", 0)), (True, ("var", 0)), (2, ("to", ("var", 1), ("var", 0))), [0, ("num",)], (0, ["num"])):
            self.raises(one, lambda: one.swear("List.one", told), errors.Wrong, 1)
        for index in (True, False, None, "0", (0,), [0]):
            self.raises(one, lambda: one.free(index), errors.Wrong, 0)

    def test_undo(self):
        one = Bench()
        calls = [
            lambda: one.put("module M let id = fn x -> x give id"), lambda: one.swear("M.id", SAME), lambda: one.put("module N module M let id = fn y -> y give id"), lambda: one.swear("M.id", NUMS), lambda: one.free(0), lambda: one.take("N"),
            lambda: one.put("module M let id = fn n -> n + 1 give id"), lambda: one.put("module M let id = fn n -> n + 1 give id"), lambda: one.free(0), lambda: one.take("M")]
        states, twins = [state(one)], [one.twin()]
        for call in calls:
            self.assertIsNone(call())
            states.append(state(one))
            twins.append(one.twin())
            self.raises(one, lambda: one.put("module M module M"), errors.Twice, "M", "M")
            self.raises(one, lambda: one.take("Q"), errors.NoModule, "Q", "Q")
            self.raises(one, lambda: one.free(99), errors.NoIndex, 99)
            self.raises(one, lambda: one.swear("Q.q", SAME), errors.Broken, len(one.oaths()))
        for at in range(len(calls) - 1, -1, -1):
            self.assertEqual(one, twins[at + 1])
            self.assertIsNone(one.undo())
            self.assertEqual(state(one), states[at])
            self.assertEqual(one, twins[at])
        self.raises(one, one.undo, errors.Nothing)
        for at, twin in enumerate(twins):
            self.assertEqual(state(twin), states[at])
            for back in range(at - 1, -1, -1):
                twin.undo()
                self.assertEqual(state(twin), states[back])
            self.raises(twin, twin.undo, errors.Nothing)

    def test_undo_and_on(self):
        one = bench("module M", "module N")
        one.undo()
        one.put("module O")
        self.assertEqual(list(one.texts()), ["M", "O"])
        one.undo()
        one.undo()
        self.assertEqual(one.texts(), {})
        self.raises(one, one.undo, errors.Nothing)

    def test_twin(self):
        one = bench(LIST, MAIN)
        one.swear("List.one", scheme_at(one, "List.one"))
        twin = one.twin()
        self.assertIsInstance(twin, Bench)
        self.assertIs(one == twin, True)
        before = state(one)
        twin.free(0)
        twin.take("Main")
        twin.put("module X")
        self.assertEqual([state(one), one == twin], [before, False])
        for _ in range(6):
            twin.undo()
        self.raises(twin, twin.undo, errors.Nothing)
        self.assertEqual(state(one), before)
        one.undo()
        self.assertEqual(one.oaths(), [])

    def test_equality(self):
        one, other = bench(LIST, MAIN), bench(MAIN, LIST)
        self.assertEqual([one == other, one != other], [True, False])
        other.put(MAIN)
        self.assertIs(one == other, True)
        other.put("module Main use List let main = List.length (List.one false)")
        self.assertEqual([one == other, one != other], [False, True])
        one, other = bench("module M let a = 1 give a"), bench("module M let a = 1 give a")
        for oath in (("M.a", scheme("num")), ("M.a", scheme("num"))):
            one.swear(*oath)
            self.assertIs(one == other, False)
            other.swear(*oath)
            self.assertIs(one == other, True)
        one, other = bench("module M let i = fn x -> x give i"), bench("module M let i = fn x -> x give i")
        one.swear("M.i", SAME)
        one.swear("M.i", NUMS)
        other.swear("M.i", NUMS)
        other.swear("M.i", SAME)
        self.assertIs(one == other, False)
        for thing in any_values() + [errors.Nothing(), one.texts(), one.oaths()]:
            self.assertEqual([one == thing, one != thing, thing == one], [False, True, False])

    def test_in_any_order(self):
        """Random calls, beside lists of what there was."""
        chance = random.Random(65)
        texts = ["module A let x = 1 give x", "module A let x = fn y -> y give x", "module A let x = fn y -> y + 1 give x", "module B use A let z = A.x give z", "module B let z = 1 give z", "module A module B use A let z = A.x let w = z give z, w", "module C let", "module C module C"]
        schemes = [scheme("num"), SAME, NUMS]
        for _ in range(20):
            one, past = Bench(), []
            for _ in range(30):
                way = chance.randrange(7)
                before = state(one)
                try:
                    if way < 3:
                        one.put(chance.choice(texts))
                    elif way == 3:
                        one.take(chance.choice("ABC"))
                    elif way == 4:
                        one.swear(chance.choice(["A.x", "B.z", "B.w", "C.c"]), chance.choice(schemes))
                    elif way == 5:
                        one.free(chance.randrange(3))
                    else:
                        one.undo()
                except errors.SwornError:
                    self.assertEqual(state(one), before)
                else:
                    if way == 6:
                        self.assertEqual(state(one), past.pop())
                    else:
                        past.append(before)
                for name, told in one.oaths():
                    self.assertTrue(is_more_general(scheme_at(one, name), told))


def past_of(one):
    """The states that can be taken back."""
    twin, found = one.twin(), []
    while True:
        try:
            twin.undo()
        except errors.Nothing:
            return found
        found.append(state(twin))


class VerdictTest(unittest.TestCase):
    def told(self, texts, name, wanted):
        one = bench(*texts)
        before = state(one)
        found = verdict(one, name)
        self.assertEqual(frozen(found), frozen(wanted))
        self.assertEqual([state(one), frozen(verdict(one, name))], [before, frozen(wanted)])
        if found[0] != "taken":
            with self.assertRaises(errors.SwornError) as caught:
                run_at(one, name, 100, (), 100)
            self.assertIs(type(caught.exception), errors.Untaken)
        return one

    def test_joining(self):
        for text, wanted in [
                ("module M let main = 1 let main = 2", ("Twice", ("M", "main"))), ("module M kind K = A kind L = A let main = 1", ("Twice", ("M", "A"))), ("module N", ("NoModule", ("M", "M"))), ("module M use N let main = 1", ("NoModule", ("M", "N"))),
                ("module M use N let main = 1 module N use M", ("UseRing", (("M", "N"),))), ("module M let x = 1", ("NoName", ("M", "main"))), ("module M let main = y", ("NoName", ("M", "y"))), ("module M let main = N.x module N let x = 1 give x", ("Hidden", ("M", "N.x"))),
                ("module M use N let main = N.x module N let x = 1", ("Hidden", ("M", "N.x"))), ("module M kind K = A num let main = A", ("NotFit", ("M", "A"))), ("module M kind K = A (K num) let main = 1", ("NotFit", ("M", "K"))), ("module M kind K = A K let main = 1", ("NoValues", ("M", "K")))]:
            one = self.told([text], "M", ("joining",) + wanted)
            with self.assertRaises(errors.SwornError) as caught:
                joined(read_modules(text), "M")
            self.assertEqual((type(caught.exception).__name__, tuple(vars(caught.exception).values())), wanted)
            self.assertIsNone(scheme_at(one, "M.main"))
        self.told([], "Main", ("joining", "NoModule", ("Main", "Main")))

    def test_kinds(self):
        for texts in [["module M let main = 1 + true"], ["module L let f = fn x -> x + 1 give f", "module M use L let g = L.f let main = g true"], ["module M let i = fn x -> x rec f = fn x -> f 1 true let main = i i"],
                      ["module K let k = 1 give k", "module L use K let l = K.k give l", "module M use L let main = L.l 2"]]:
            modules = read_modules(" ".join(texts))
            program = joined(modules, "M")
            lot = least_lot(program)
            self.told(texts, "M", ("kinds", tuple(whose(modules, "M", place) for place in lot)))
        self.assertEqual(verdict(bench("module M let a = 1 let main = a + true"), "M"), ("kinds", (("M", 1, (0,)), ("M", 1, (0, 1)))))

    def test_match(self):
        text = "module M kind Opt ?0 = No | Some ?0 let f = fn o -> match o with | Some x -> x end let main = match 1 with | 1 -> 2 end"
        self.told([text], "M", ("match", ("M", 1, (0, 0)), ("make", "M.No", None)))
        text = "module L kind Opt ?0 = No | Some ?0 let one = Some 1 give one, kind Opt * module M use L let main = (1, match L.one with | L.No -> 1 | L.Some 5 -> 2 end)"
        found = verdict(bench(text), "M")
        self.assertEqual([found[:2], found[2][:2]], [("match", ("M", 0, (0, 1))), ("make", "L.Some")])

    def test_order(self):
        """Kinds are told ahead of matches, and what is too great ahead of these."""
        self.assertEqual(verdict(bench("module M let a = match 1 with | 1 -> 2 end let main = 1 1"), "M")[0], "kinds")
        great = " ".join(f"let x{at} = (x{at - 1}, x{at - 1})" for at in range(1, 12))
        self.told([f"module M let a = match 1 with | 1 -> 2 end let x0 = 1 {great} let main = 1"], "M", ("great",))
        self.assertEqual(verdict(bench(f"module M let x0 = 1 {great} let main = 1 1"), "M")[0], "kinds")

    def test_taken(self):
        for texts, wanted in [(["module M let main = 5"], "num"), (["module M let main = fn x -> x"], "?0 -> ?0"), ([LIST, "module M use List let main = List.length"], None), ([LIST, "module M use List let main = List.length (List.one (fn x -> x))"], "num")]:
            one = bench(*texts)
            modules = read_modules(" ".join(texts))
            self.assertEqual(verdict(one, "M"), ("taken", taken(joined(modules, "M"))))
            if wanted:
                self.told(texts, "M", ("taken", scheme(wanted)))
        self.assertEqual(verdict(bench(LIST, MAIN), "Main"), ("taken", scheme("num")))
        self.assertEqual(verdict(bench(LIST, MAIN), "List"), ("joining", "NoName", ("List", "main")))

    def test_what_is_not_used_does_not_matter(self):
        self.told(["module M let main = 5", "module Bad let x = 1 1 let x = y", "module N use M, O"], "M", ("taken", scheme("num")))


class SchemeAtTest(unittest.TestCase):
    def test_schemes(self):
        one = bench(LIST, MAIN, "module Hid let x = 1 let y = 2 give x", "module Bad let x = 1 let y = 1 1 give x")
        for name, wanted in [("List.one", (1, ("to", ("var", 0), ("of", "List.List", (("var", 0),))))), ("List.length", (1, ("to", ("of", "List.List", (("var", 0),)), ("num",)))), ("Hid.x", scheme("num")), ("Hid.y", None), ("Hid.z", None), ("Main.main", None), ("Gone.x", None), ("Bad.x", None)]:
            before = state(one)
            self.assertEqual(frozen(scheme_at(one, name)), frozen(wanted))
            self.assertEqual([frozen(scheme_at(one, name)), state(one)], [frozen(wanted), before])

    def test_modules_called_like_the_one_more(self):
        names = [f"A{at}" for at in range(13)]
        for many in (1, 2, 3, 12, 13):
            one = bench(*[f"module {name} let x = {at} give x" for at, name in enumerate(names[:many])])
            for name in names:
                self.assertEqual(scheme_at(one, f"{name}.x"), scheme("num") if name in names[:many] else None)
        one = bench("module A1 use A0 let x = A0.x give x", "module A0 let x = fn x -> x give x", "module M use A2 let x = 1 give x")
        self.assertEqual([scheme_at(one, "A1.x"), scheme_at(one, "A0.x"), scheme_at(one, "M.x"), scheme_at(one, "A2.x")], [SAME, SAME, None, None])
        self.assertEqual(list(one.texts()), ["A0", "A1", "M"])

    def test_as_the_program(self):
        for text in ("fn x -> fn y -> x", "(1, true)", "new 1", "fn r -> r.a", "let c = new (fn x -> x) in c", "1 true"):
            one = bench(f"module M let x = {text} give x")
            program = joined(read_modules(f"module M let x = {text} give x module Q use M let main = M.x"), "Q")
            self.assertEqual(scheme_at(one, "M.x"), scheme_of_program(program))


class RunAtTest(unittest.TestCase):
    def test_runs(self):
        one = bench(LIST, "module Main use List let u = tell 7 let main = (List.one 1, List.length (List.one true))")
        modules = read_modules(LIST + " module Main use List let u = tell 7 let main = (List.one 1, List.length (List.one true))")
        program = joined(modules, "Main")
        words = set()
        for room in (0, 5, 12, 30, 100):
            for plan in ((), (True,), (False, True)):
                for most in (0, 10, 500):
                    before = state(one)
                    told = run_at(one, "Main", room, plan, most)
                    self.assertEqual(frozen(told), frozen(ends_alike(program, room, plan, most)))
                    self.assertEqual(state(one), before)
                    words.add(told[0])
        self.assertEqual(words, {"ended", "room", "going"})
        end = run_at(one, "Main", 100, (), 500)
        one_of = ("make", "List.Cons", ("tuple", (("num", 1), ("make", "List.Nil", None))))
        self.assertEqual(end, ("ended", ("tuple", (one_of, ("num", 1))), (7,)))

    def test_untaken(self):
        for text in ("module M let main = 1 1", "module M let main = match 1 with | 1 -> 2 end", "module M", "module N let main = 1"):
            with self.assertRaises(errors.SwornError) as caught:
                run_at(bench(text), "M", 9, (), 9)
            self.assertIs(type(caught.exception), errors.Untaken)


if __name__ == "__main__":
    unittest.main()
