"""[51] to [53]: the machine, its rows, its runs; [8] to [10] of it."""

import random
import unittest

from kindsworn.bench import Bench
from kindsworn.errors import SwornError, Wrong
from kindsworn.heap import header_of, object_at
from kindsworn.machine import Machine, end_of, roots
from kindsworn.words import immediate, is_code
from tests.anything import STRANGE, any_values, frozen, nested, spoilt
from tests.plainmachine import LABELS, MAKERS, PlainMachine, lasting_code, random_code

UNIT, NO, YES = 5, 3, 13
FUNCTIONS = ((0, None, ()), (1, None, ("a", "b")), (2, None, ("c",)), (3, None, ("d",)))
CODE = ((("give", 11), ("push",), ("tuple", 2), ("back",)), (), (), (), (None,) * 4)
KEYS = ["base", "cells", "free", "half", "hand", "heap", "made", "own", "pile", "place", "told", "word"]


def num(number):
    return 10 * number + 1


def place(number):
    return 10 * number + 9


def code(*rows, functions=FUNCTIONS):
    """The code of these rows, behind which stand three that never go."""
    more = rows + (("none",),) * 4
    return more, functions, LABELS, MAKERS, (None,) * len(more)


def ran(rows, most, room=60, plan=()):
    """The machine of rows, behind so many of them."""
    machine = Machine(code(*rows), room, plan)
    done = machine.run(most)
    assert done == most, (done, most, machine.shown())
    return machine


# Rows that bring something into the hand, and what it looks like.
PAIR = (("give", num(1)), ("push",), ("give", num(2)), ("push",), ("tuple", 2))
RECORD = (("give", num(1)), ("push",), ("give", YES), ("push",), ("record", 1, 2))
SOME = (("give", num(4)), ("make", 1))
CELL = (("give", num(6)), ("new",))
CLOSURE = (("closure", 0, 0),)
CLOSED = (("give", num(8)), ("push",), ("closure", 2, 1))
THINGS = {"num": (("give", num(3)),), "zero": (("give", 1),), "yes": (("give", YES),), "no": (("give", NO),), "unit": (("give", UNIT),), "maker": (("give", 7),), "other": (("give", 27),), "pair": PAIR, "record": RECORD, "some": SOME,
          "cell": CELL, "closure": CLOSURE, "closed": CLOSED}


class RowsTest(unittest.TestCase):
    def goes(self, rows, row, changed, room=60, plan=()):
        """That one more row, behind others, changes just this."""
        machine = ran(rows + (row,), len(rows), room, plan)
        before = machine.shown()
        self.assertEqual(machine.step(), None)
        after = machine.shown()
        wanted = {**before, "place": before["place"] + 1, **changed}
        self.assertEqual(frozen(after), frozen({key: wanted[key] for key in sorted(wanted)}), row)
        return machine

    def stuck(self, rows, row):
        self.goes(rows, row, {"word": "stuck", "place": len(rows)})
        machine = ran(rows + (row,), len(rows))
        self.assertEqual([machine.run(5), machine.shown()["word"], machine.shown()["place"]], [0, "stuck", len(rows)])

    def put(self, rows, row, sort, extra, fields, **changed):
        """That a row puts an object behind the others."""
        before = ran(rows, len(rows)).shown()
        heap = list(before["heap"])
        heap[before["free"]:before["free"] + len(fields) + 1] = [header_of(sort, extra, len(fields))] + list(fields)
        machine = self.goes(rows, row, {"heap": tuple(heap), "hand": 2 * before["free"], "made": before["made"] + 1, "free": before["free"] + 1 + len(fields), **changed})
        self.assertEqual(object_at(machine.shown()["heap"], before["free"]), (sort, extra, tuple(fields)))

    def hand_of(self, name):
        return ran(THINGS[name], len(THINGS[name])).shown()["hand"]

    def sort_wanted(self, row, names, ahead=()):
        """That a row wants one of these things in hand."""
        for name, rows in THINGS.items():
            if name not in names:
                self.stuck(ahead + rows, row)

    def test_give(self):
        for word in (num(0), num(-2147483648), YES, NO, UNIT, 7, 17, 27):
            self.goes((), ("give", word), {"hand": word})
            self.goes(PAIR, ("give", word), {"hand": word})

    def test_local_push_drop(self):
        two = (("give", num(1)), ("push",), ("give", YES), ("push",), ("give", UNIT))
        self.goes(two, ("local", 0), {"hand": num(1)})
        self.goes(two, ("local", 1), {"hand": YES})
        self.stuck(two, ("local", 2))
        self.stuck((), ("local", 0))
        self.goes(two, ("push",), {"pile": (num(1), YES, UNIT)})
        self.goes((), ("push",), {"pile": (UNIT,)})
        self.goes(two, ("drop", 1), {"pile": (num(1),)})
        self.goes(two, ("drop", 2), {"pile": ()})
        self.stuck(two, ("drop", 3))
        self.stuck((), ("drop", 1))

    def test_tell(self):
        self.goes((("give", num(-5)),), ("tell",), {"hand": UNIT, "told": (-5,)})
        self.goes((("give", num(-5)), ("tell",), ("give", num(6))), ("tell",), {"hand": UNIT, "told": (-5, 6)})
        self.sort_wanted(("tell",), ("num", "zero"))

    def test_makes_of_the_pile(self):
        three = (("give", num(1)), ("push",), ("give", YES), ("push",), ("give", 7), ("push",))
        self.put(three, ("tuple", 2), 0, 0, (YES, 7), pile=(num(1),))
        self.put(three, ("tuple", 3), 0, 0, (num(1), YES, 7), pile=())
        self.stuck(three, ("tuple", 4))
        self.put(three, ("record", 0, 1), 1, 0, (7,), pile=(num(1), YES))
        self.put(three, ("record", 2, 3), 1, 2, (num(1), YES, 7), pile=())
        self.stuck(three[:4], ("record", 2, 3))
        self.put(three, ("closure", 0, 0), 4, 0, (), pile=(num(1), YES, 7))
        self.put(three, ("closure", 2, 1), 4, 2, (7,), pile=(num(1), YES))
        self.put(three, ("closure", 1, 2), 4, 1, (YES, 7), pile=(num(1),))
        self.stuck(three[:2], ("closure", 1, 2))
        self.put(CELL + (("push",),) + PAIR + (("push",),), ("tuple", 2), 0, 0, (0, 4), pile=())
        wide = (("give", num(9)),) + (("push",),) * 255
        self.put_wide(wide)

    def put_wide(self, rows):
        machine = Machine(code(*(rows + (("tuple", 255),))), 300, ())
        self.assertEqual(machine.run(len(rows) + 1), len(rows) + 1)
        self.assertEqual(object_at(machine.shown()["heap"], 0), (0, 0, (num(9),) * 255))

    def test_many_fields_wanted(self):
        """However many fields a row tells, it wants as many own words, and there has to be room."""
        for many in (256, 300, 65536, 10 ** 12 + 3, 10 ** 39):
            self.stuck((), ("tuple", many))
            self.stuck(PAIR + (("push",),), ("tuple", many))
        for many in (256, 300):
            names = tuple(f"a{at:03}" for at in range(many))
            for row in (("tuple", many), ("record", 0, many), ("closure", 0, many)):
                rows = (("push",),) * many + (row,)
                one = (rows, ((0, None, names),), (names,), (), (None,) * (many + 1))
                less = (rows[1:], ((0, None, names),), (names,), (), (None,) * many)
                for plan in ((), (True,)):
                    word, machine, done = end_of(one, many, plan, many + 9)
                    self.assertEqual([word, done, machine.shown()["pile"], machine.shown()["made"]], ["room", many, (UNIT,) * many, 0])
                    word, machine, done = end_of(less, many + 9, plan, many + 9)
                    self.assertEqual([word, done, machine.shown()["pile"], machine.shown()["free"]], ["stuck", many - 1, (UNIT,) * (many - 1), 0])

    def test_more_fields_than_there_may_be(self):
        """No object has so many, but a code that would make one raises nothing."""
        for many in (256, 300, 520):
            names = tuple(f"a{at:03}" for at in range(many))
            ahead = (("push",),) * many
            for behind in (
                    (("tuple", many), ("item", 255)), (("record", 0, many), ("label", "a000")), (("closure", 0, many), ("push",), ("call",)),
                    (("closure", 0, many), ("push",), ("tail",))):
                for plan in ((), (True,)):
                    rows = ahead + behind
                    one = (rows, ((len(rows) - 1, None, names),), (names,), (), (None,) * len(rows))
                    self.assertEqual(end_of(one, 600, plan, len(rows) + 9)[::2], ("stuck", len(rows) - 1))

    def test_makes_of_the_hand(self):
        for name, rows in THINGS.items():
            self.put(rows, ("make", 2), 2, 2, (self.hand_of(name),))
            self.put(rows, ("new",), 3, 1 if name == "cell" else 0, (self.hand_of(name),), cells=2 if name == "cell" else 1)
        self.put(CELL + CELL, ("new",), 3, 2, (4,), cells=3)

    def called(self, closure, *rows):
        """Rows that call a closure with 0, whose function begins at the last four rows but for these."""
        functions = tuple((len(closure) + 4, None, names) for _, _, names in FUNCTIONS)
        ahead = closure + (("push",), ("give", num(0)), ("call",), ("none",))
        return code(*(ahead + rows), functions=functions), len(ahead) - 1

    def in_call(self, closure, row, changed, more=()):
        """That a row in the body of a function changes just this; more are rows of the body ahead of it."""
        told, ahead = self.called(closure, *(more + (row,)))
        machine = Machine(told, 60, ())
        self.assertEqual(machine.run(ahead + len(more)), ahead + len(more))
        before = machine.shown()
        machine.step()
        changed = changed(before) if callable(changed) else changed
        self.assertEqual(machine.shown(), {**before, "place": before["place"] + 1, **changed})

    def test_captured_own_sibling(self):
        closed = (("give", num(8)), ("push",), ("give", YES), ("push",), ("closure", 1, 2))
        self.in_call(closed, ("captured", 0), {"hand": num(8)})
        self.in_call(closed, ("captured", 1), {"hand": YES})
        stuck = lambda before: {"word": "stuck", "place": before["place"]}
        self.in_call(closed, ("captured", 2), stuck)
        self.in_call(CLOSURE, ("captured", 0), stuck)
        self.in_call(closed, ("own",), lambda before: {"hand": before["own"]})
        self.in_call(CLOSURE, ("own",), lambda before: {"hand": before["own"]})
        made = lambda sort, extra, fields: lambda before: {
            "hand": 2 * before["free"], "free": before["free"] + 1 + len(fields), "made": before["made"] + 1,
            "heap": before["heap"][:before["free"]] + (header_of(sort, extra, len(fields)),) + fields + before["heap"][before["free"] + 1 + len(fields):]}
        self.in_call(closed, ("sibling", 1), made(4, 1, (num(8), YES)))
        self.in_call(CLOSED, ("sibling", 3), made(4, 3, (num(8),)))
        self.in_call(CLOSURE, ("sibling", 0), made(4, 0, ()))
        self.in_call(CLOSED, ("sibling", 1), stuck)
        self.in_call(CLOSED, ("sibling", 0), stuck)
        for row in (("captured", 0), ("own",), ("sibling", 0)):
            for rows in THINGS.values():
                self.stuck(rows, row)

    def test_get_put(self):
        self.goes(CELL, ("get",), {"hand": num(6)})
        self.goes(PAIR + (("new",),), ("get",), {"hand": 0})
        self.sort_wanted(("get",), ("cell",))
        for name, rows in THINGS.items():
            both = CELL + (("push",),) + rows
            before = ran(both, len(both)).shown()
            heap = (before["heap"][0], before["hand"]) + before["heap"][2:]
            self.goes(both, ("put",), {"hand": UNIT, "pile": (), "heap": heap})
            if name != "cell":
                self.stuck(rows + (("push",),) + CELL, ("put",))
        self.stuck(CELL, ("put",))

    def test_item_label_inside(self):
        self.goes(PAIR, ("item", 0), {"hand": num(1)})
        self.goes(PAIR, ("item", 1), {"hand": num(2)})
        self.stuck(PAIR, ("item", 2))
        self.sort_wanted(("item", 0), ("pair",))
        self.goes(RECORD, ("label", "a"), {"hand": num(1)})
        self.goes(RECORD, ("label", "b"), {"hand": YES})
        self.stuck(RECORD, ("label", "c"))
        self.sort_wanted(("label", "a"), ("record",))
        self.goes(SOME, ("inside",), {"hand": num(4)})
        self.sort_wanted(("inside",), ("some",))

    def test_op(self):
        most, least = 2147483647, -2147483648
        for one, sign, other, word in [
                (3, "+", 4, num(7)), (3, "-", 4, num(-1)), (3, "*", 4, num(12)), (3, "<", 4, YES), (4, "<", 4, NO), (5, "<", 4, NO), (3, "=", 4, NO), (4, "=", 4, YES), (most, "+", 1, num(least)), (least, "-", 1, num(most)), (most, "*", most, num(1)), (least, "*", -1, num(least)),
                (65536, "*", 65536, num(0)), (-3, "*", 5, num(-15)), (-1, "<", 0, YES), (0, "=", 0, YES)]:
            rows = (("give", YES), ("push",), ("give", num(one)), ("push",), ("give", num(other)))
            self.goes(rows, ("op", sign), {"hand": word, "pile": (YES,)})
        for sign in "+-*<=":
            self.sort_wanted(("op", sign), ("num", "zero"), (("give", num(1)), ("push",)))
            self.stuck((("give", num(1)),), ("op", sign))
            for name, rows in THINGS.items():
                if name not in ("num", "zero"):
                    self.stuck(rows + (("push",), ("give", num(1))), ("op", sign))

    def test_go_and_tests(self):
        for to in (0, 3):
            for rows in THINGS.values():
                self.goes(rows, ("go", to), {"place": to})
            self.goes(THINGS["yes"], ("unless", to), {})
            self.goes(THINGS["no"], ("unless", to), {"place": to})
            self.sort_wanted(("unless", to), ("yes", "no"))
            self.goes(THINGS["num"], ("notnum", 3, to), {})
            self.goes(THINGS["num"], ("notnum", 4, to), {"place": to})
            self.goes(THINGS["zero"], ("notnum", 0, to), {})
            self.sort_wanted(("notnum", 0, to), ("num", "zero"))
            self.goes(THINGS["yes"], ("nottruth", True, to), {})
            self.goes(THINGS["yes"], ("nottruth", False, to), {"place": to})
            self.goes(THINGS["no"], ("nottruth", True, to), {"place": to})
            self.goes(THINGS["no"], ("nottruth", False, to), {})
            self.sort_wanted(("nottruth", True, to), ("yes", "no"))
            self.goes(THINGS["maker"], ("notmaker", 0, to), {})
            self.goes(THINGS["maker"], ("notmaker", 1, to), {"place": to})
            self.goes(THINGS["other"], ("notmaker", 2, to), {})
            self.goes(SOME, ("notmaker", 1, to), {})
            self.goes(SOME, ("notmaker", 0, to), {"place": to})
            self.sort_wanted(("notmaker", 0, to), ("maker", "other", "some"))

    def test_call(self):
        ahead = CLOSURE + (("push",), ("give", YES), ("push",)) + CLOSED + (("push",), ("give", num(3)))
        word = ran(ahead, len(ahead)).shown()["pile"][-1]
        machine = self.goes(ahead, ("call",), {"pile": (0, YES, place(len(ahead) + 1), place(0), UNIT, num(3)), "base": 5, "own": word, "place": 2})
        self.assertEqual(roots(machine), (num(3), word, 0, YES, place(len(ahead) + 1), place(0), UNIT, num(3)))
        self.sort_wanted(("call",), (), ())
        for name, rows in THINGS.items():
            if name not in ("closure", "closed"):
                self.stuck(rows + (("push",),) + CLOSURE, ("call",))
                self.stuck(rows + (("push",),) + CLOSURE, ("tail",))
        self.sort_wanted(("tail",), ())

    def test_tail(self):
        ahead = CLOSURE + (("push",), ("give", YES), ("push",)) + CLOSED + (("push",), ("give", num(3)))
        word = ran(ahead, len(ahead)).shown()["pile"][-1]
        self.goes(ahead, ("tail",), {"pile": (num(3),), "own": word, "place": 2})
        body = (("push",),) + CLOSED + (("push",), ("give", YES))
        told, count = self.called(CLOSURE, *(body + (("tail",),)))
        machine = Machine(told, 60, ())
        machine.run(count + len(body))
        before = machine.shown()
        self.assertGreater(before["base"], 0)
        machine.step()
        self.assertEqual(machine.shown(), {**before, "pile": before["pile"][:before["base"]] + (YES,), "own": before["pile"][-1], "place": 5})

    def test_calls_want_own_words(self):
        """A closure below the base is no own word."""
        for row in (("call",), ("tail",), ("put",), ("op", "+")):
            told, ahead = self.called(CLOSURE, ("drop", 1), row)
            machine = Machine(told, 60, ())
            self.assertEqual(machine.run(ahead + 5), ahead + 1)
            self.assertEqual([machine.shown()["word"], machine.shown()["place"]], ["stuck", 6])

    def test_back(self):
        self.goes(PAIR, ("back",), {"word": "ended", "place": len(PAIR)})
        body = (("push",), ("give", YES), ("push",), ("back",))
        told, ahead = self.called(CLOSED, *body)
        machine = Machine(told, 60, ())
        machine.run(ahead)
        self.assertEqual(machine.run(3), 3)
        before = machine.shown()
        self.assertEqual(before["pile"], (place(6), place(0), UNIT, num(0), num(0), YES))
        machine.step()
        self.assertEqual(machine.shown(), {**before, "pile": (), "base": 0, "own": UNIT, "place": 6})

    def test_back_at_the_base_0_behind_a_tail(self):
        rows = (("closure", 0, 0), ("push",), ("give", YES), ("tail",), ("push",), ("back",))
        told = (rows, ((4, None, ()),), (), (), (None,) * 6)
        machine = Machine(told, 5, ())
        self.assertEqual(machine.run(4), 4)
        self.assertEqual([machine.shown()[name] for name in ("base", "pile", "own", "place")], [0, (YES,), 0, 4])
        self.assertEqual(machine.run(9), 2)
        self.assertEqual([machine.shown()[name] for name in ("base", "pile", "own", "place", "word", "hand")], [0, (YES, YES), 0, 5, "ended", YES])

    def test_nested_calls(self):
        rows = (("closure", 0, 0), ("push",), ("give", num(1)), ("call",), ("back",), ("local", 0), ("push",), ("closure", 1, 0), ("push",), ("local", 0), ("call",), ("op", "+"), ("back",), ("local", 0), ("push",), ("give", num(5)), ("op", "*"), ("back",))
        told = (rows, ((5, None, ()), (13, None, ())), (), (), (None,) * len(rows))
        machine = Machine(told, 9, (True,))
        machine.run(10)
        shown = machine.shown()
        self.assertEqual([shown["base"], len(shown["pile"]), shown["pile"][3:7]], [8, 9, (num(1), num(1), place(11), place(3))])
        self.assertEqual(machine.run(99), 8)
        self.assertEqual([machine.shown()["word"], machine.shown()["hand"], machine.shown()["pile"]], ["ended", num(6), ()])

    def test_none_and_no_row(self):
        for rows in THINGS.values():
            self.stuck(rows, ("none",))
        machine = Machine(((("give", YES),), (), (), (), (None,)), 3, ())
        self.assertEqual(machine.run(5), 1)
        self.assertEqual([machine.shown()[name] for name in ("word", "place", "hand")], ["stuck", 1, YES])
        machine = Machine(((("give", YES), ("go", 0)), (), (), (), (None,) * 2), 3, ())
        self.assertEqual([machine.run(501), machine.shown()["place"], machine.shown()["word"]], [501, 1, "going"])


class CollectingTest(unittest.TestCase):
    # Each round makes a pair, which nothing keeps in the next one.
    ROWS = (("give", num(1)), ("push",), ("give", num(2)), ("push",), ("tuple", 2), ("push",), ("drop", 1), ("go", 0))

    def shown_behind(self, most, room, plan):
        machine = Machine(code(*self.ROWS), room, plan)
        done = machine.run(most)
        return done, machine.shown()

    def test_plans(self):
        """At which objects a plan wants a collection: each one changes the half."""
        for plan, wanted in [((), "0000"), ((False,), "0000"), ((True,), "1010"), ((True, False), "1100"), ((False, True), "0110"), ((False, False, True), "0011"), ((True, True, False), "1001")]:
            halves = ""
            for many in range(4):
                _, now = self.shown_behind(8 * many + 5, 60, plan)
                halves += str(now["half"])
                self.assertEqual(now["made"], many + 1)
            self.assertEqual(halves, wanted, plan)

    def test_want_of_room(self):
        """Room for two pairs: the third one wants a collection; at its time no pair is kept any more."""
        halves = [self.shown_behind(8 * many + 5, 6, ())[1]["half"] for many in range(6)]
        self.assertEqual(halves, [0, 0, 1, 1, 0, 0])
        halves = [self.shown_behind(8 * many + 5, 6, (False, False, True))[1]["half"] for many in range(6)]
        self.assertEqual(halves, [0, 0, 1, 1, 0, 1])
        _, now = self.shown_behind(8 * 2 + 5, 6, ())
        self.assertEqual([now["free"], now["heap"], now["hand"]], [9, (0,) * 6 + (21, num(1), num(2), 0, 0, 0), 12])

    def test_just_enough(self):
        for room, word in [(0, "room"), (1, "room"), (2, "room"), (3, "going")]:
            for plan in ((), (True,), (False,), (True, False)):
                done, now = self.shown_behind(30, room, plan)
                self.assertEqual([now["word"], done], [word, 30 if word == "going" else 4])

    def test_what_room_leaves_behind(self):
        """A collection, and nothing else: the row is not done, what it would take off is there."""
        keeping = (("give", num(7)), ("new",), ("push",), ("give", num(8)), ("new",), ("give", num(9)), ("new",), ("push",), ("tuple", 2))
        for plan in ((), (False,), (False, False, False, True), (True,)):
            machine = Machine(code(*keeping), 6, plan)
            self.assertEqual(machine.run(8), 8)
            before = machine.shown()
            self.assertEqual(before["word"], "going")
            machine.step()
            now = machine.shown()
            self.assertEqual([now["word"], now["place"], now["made"], now["cells"], now["half"], len(now["pile"])], ["room", 8, 3, 3, 1 - before["half"], 2])
            first = 6 * now["half"]
            self.assertEqual([now["hand"], now["pile"], now["free"]], [2 * first, (2 * first + 4, 2 * first), first + 4])
            self.assertEqual([object_at(now["heap"], first), object_at(now["heap"], first + 2)], [(3, 2, (num(9),)), (3, 0, (num(7),))])
            self.assertEqual(now["heap"].count(0), 8)
            again = frozen(machine.shown())
            machine.step()
            self.assertEqual([machine.run(5), frozen(machine.shown())], [0, again])

    def test_one_more_word_is_enough(self):
        keeping = (("give", num(7)), ("new",), ("push",), ("give", num(8)), ("new",), ("give", num(9)), ("new",), ("push",), ("tuple", 2))
        for plan in ((), (True,), (False, True)):
            machine = Machine(code(*keeping), 7, plan)
            self.assertEqual(machine.run(9), 9)
            now = machine.shown()
            self.assertEqual([now["word"], now["made"], now["pile"], now["free"] - 7 * now["half"]], ["going", 4, (), 7])
            self.assertEqual(object_at(now["heap"], now["hand"] // 2), (0, 0, (14 * now["half"] + 4, 14 * now["half"])))

    def test_each_row_that_makes(self):
        """None of them goes without room, and each one changes nothing but by the collection."""
        for row, ahead in [(("tuple", 2), 2), (("record", 0, 1), 1), (("record", 1, 2), 2), (("closure", 1, 2), 2), (("closure", 0, 0), 0), (("make", 0), 0), (("new",), 0)]:
            rows = (("give", YES),) + (("push",),) * ahead + (row,)
            many = 2 if row[0] in ("make", "new") else 1 + ahead
            for plan in ((), (True,)):
                for room in range(many + 2):
                    machine = Machine(code(*rows), room, plan)
                    done = machine.run(len(rows))
                    now = machine.shown()
                    self.assertEqual([now["word"], done], ["going", len(rows)] if room >= many else ["room", len(rows) - 1])
                    if room < many:
                        self.assertEqual([now["place"], now["pile"], now["hand"], now["half"], now["made"], now["cells"]], [len(rows) - 1, (YES,) * ahead, YES, 1, 0, 0])

    def test_sibling(self):
        """The own closure moves, and what it has is read behind this."""
        rows = (("give", num(1)), ("new",), ("push",), ("closure", 0, 1), ("push",), ("give", UNIT), ("call",), ("none",), ("sibling", 1), ("captured", 0), ("get",))
        told = (rows, ((8, None, ("a",)), (8, None, ("a",))), (), (), (None,) * len(rows))
        for room in (6, 7):
            for plan in ((), (True,), (False, False, True)):
                machine = Machine(told, room, plan)
                self.assertEqual(machine.run(10), 10)
                now = machine.shown()
                self.assertEqual([now["word"], now["hand"]], ["going", num(1)])
        self.assertEqual(end_of(told, 5, (), 99)[::2], ("room", 7))

    def test_wants_come_first(self):
        """What is stuck does no collection."""
        for row in (("tuple", 2), ("closure", 1, 2), ("record", 1, 2), ("sibling", 0)):
            machine = Machine(code(("give", num(1)), ("new",), row), 2, (True,))
            self.assertEqual(machine.run(2), 2)
            before = machine.shown()
            machine.step()
            self.assertEqual(machine.shown(), {**before, "word": "stuck"})


class RunsTest(unittest.TestCase):
    def test_run(self):
        for most in range(7):
            machine = Machine(CODE, 5, ())
            self.assertEqual(machine.run(most), min(most, 2))
            word, other, done = end_of(CODE, 5, (), most)
            self.assertEqual([word, done, other.shown()], [machine.shown()["word"], min(most, 2), machine.shown()])
        ending = ((("give", YES), ("back",)), (), (), (), (None,) * 2)
        self.assertEqual([end_of(ending, 0, (), most)[::2] for most in range(4)], [("going", 0), ("going", 1), ("ended", 2), ("ended", 2)])

    def test_in_pieces(self):
        chance = random.Random(53)
        for _ in range(100):
            one = lasting_code(chance)
            whole = Machine(one, 12, (False, True))
            pieces = Machine(one, 12, (False, True))
            stepped = Machine(one, 12, (False, True))
            done = whole.run(60)
            told = 0
            while told < 60:
                piece = min(chance.randrange(4), 60 - told)
                gone = pieces.run(piece)
                told += gone
                if gone < piece:
                    break
            for _ in range(60):
                self.assertIsNone(stepped.step())
            self.assertEqual([whole.shown(), done], [pieces.shown(), told])
            self.assertEqual(whole.shown(), stepped.shown())

    def test_behind_the_end(self):
        for rows, word in [((("back",),), "ended"), ((("none",),), "stuck"), ((("new",),), "room")]:
            machine = Machine((rows, (), (), (), (None,)), 0, ())
            machine.run(1)
            before = frozen(machine.shown())
            self.assertEqual(machine.shown()["word"], word)
            self.assertIsNone(machine.step())
            self.assertEqual([machine.run(0), machine.run(10), frozen(machine.shown())], [0, 0, before])

    def test_at_first(self):
        for room in (0, 1, 7):
            machine = Machine(CODE, room, (True, False))
            told = machine.shown()
            self.assertEqual(list(told), KEYS)
            self.assertEqual(told, {"place": 0, "base": 0, "half": 0, "free": 0, "made": 0, "cells": 0, "hand": UNIT, "own": UNIT, "pile": (), "told": (), "heap": (0,) * (2 * room), "word": "going"})
            self.assertEqual(roots(machine), (UNIT, UNIT))
            self.assertEqual([machine.run(0), machine.shown()], [0, told])

    def test_great_rooms(self):
        """A room of any size costs nothing until it is shown."""
        for room in (10 ** 9, 10 ** 39):
            machine = Machine(code(*(CollectingTest.ROWS)), room, (True,))
            self.assertEqual([machine.run(21), machine.room()], [21, room])
            self.assertEqual(roots(machine)[0], 2 * room)


class ObjectTest(unittest.TestCase):
    def wrong(self, wanted, *arguments):
        before = frozen(arguments)
        with self.assertRaises(SwornError) as caught:
            Machine(*arguments)
        self.assertIs(type(caught.exception), Wrong)
        self.assertEqual(caught.exception.place, wanted)
        self.assertEqual(frozen(arguments), before)

    def test_wrong_arguments(self):
        for thing in any_values() + STRANGE + [Bench(), nested(30), Wrong(0)]:
            self.wrong(0, thing, 1, ())
            self.wrong(0, thing, thing, thing)
            if type(thing) is not int or thing < 0:
                self.wrong(1, CODE, thing, ())
                self.wrong(1, CODE, thing, None)
            if not (type(thing) is tuple and all(type(one) is bool for one in thing)):
                self.wrong(2, CODE, 0, thing)
        for room in (True, False, -1, "1", (1,), [1], None):
            self.wrong(1, CODE, room, ())
        for plan in ((1,), (0,), [True], [], (True, 1), (None,), "", {}, True, ((True,),), ([],)):
            self.wrong(2, CODE, 3, plan)

    def test_near_codes(self):
        for other in spoilt(CODE):
            if is_code(other):
                Machine(other, 1, ())
            else:
                self.wrong(0, other, 1, ())

    def test_told_anew(self):
        machine = Machine(CODE, 4, (True, False))
        machine.run(1)
        told = machine.shown()
        again = frozen(told)
        told.clear()
        self.assertEqual(frozen(machine.shown()), again)
        self.assertEqual([machine.code(), machine.room(), machine.plan()], [CODE, 4, (True, False)])
        self.assertEqual(frozen((machine.code(), machine.room(), machine.plan())), frozen((CODE, 4, (True, False))))

    def test_notes_and_sorts_of_any_values(self):
        """They are copied, and told anew."""
        note, sort = [1, {"a": [2]}], {"b": ([3],)}
        one = ((("back",), ("none",)), ((0, sort, ()),), (), (), ((note, 5), None))
        told = frozen(one)
        machine = Machine(one, 1, ())
        twin = machine.twin()
        self.assertEqual(frozen(machine.code()), told)
        note[1]["a"].append(4)
        sort.clear()
        self.assertEqual([frozen(machine.code()), frozen(twin.code())], [told, told])
        given = machine.code()
        given[4][0][0].clear()
        given[1][0][1]["b"][0].append(5)
        self.assertEqual([frozen(machine.code()), frozen(twin.code())], [told, told])

    def test_twin(self):
        chance = random.Random(51)
        for _ in range(60):
            one = lasting_code(chance)
            machine = Machine(one, 14, (False, True))
            done = machine.run(chance.randrange(60))
            before = frozen(machine.shown())
            twin = machine.twin()
            self.assertIsInstance(twin, Machine)
            self.assertEqual([frozen(twin.shown()), twin.code(), twin.room(), twin.plan()], [before, one, 14, (False, True)])
            gone = twin.run(50)
            self.assertEqual(frozen(machine.shown()), before)
            again = machine.twin()
            self.assertEqual([machine.run(50), frozen(machine.shown())], [gone, frozen(twin.shown())])
            self.assertEqual(frozen(again.shown()), before)

    def test_roots(self):
        machine = Machine(code(*(PAIR + (("push",), ("give", YES), ("push",), ("give", UNIT)))), 9, ())
        machine.run(9)
        self.assertEqual(frozen(roots(machine)), frozen((UNIT, UNIT, 0, YES)))
        self.assertEqual(roots(machine), (machine.shown()["hand"], machine.shown()["own"]) + machine.shown()["pile"])


class BesideTest(unittest.TestCase):
    """The machine beside a second one, over random codes."""

    def beside(self, one, room, plan, most):
        plain = PlainMachine(one, room, plan)
        machine = Machine(one, room, plan)
        for _ in range(most):
            done = plain.step()
            machine.step()
            self.assertEqual(machine.shown(), {key: plain.now[key] for key in KEYS})
            if not done:
                break
        whole = Machine(one, room, plan)
        other = PlainMachine(one, room, plan)
        self.assertEqual(whole.run(most), other.run(most))
        self.assertEqual(frozen(whole.shown()), frozen({key: other.now[key] for key in KEYS}))
        return plain.now["word"]

    def test_random_codes(self):
        chance = random.Random(52)
        for _ in range(1500):
            one = random_code(chance)
            self.assertIs(is_code(one), True)
            self.beside(one, chance.choice([0, 1, 3, 8, 30]), chance.choice([(), (True,), (False, True)]), 40)

    def test_lasting_codes(self):
        chance = random.Random(49)
        words = {}
        for _ in range(300):
            one = lasting_code(chance)
            self.assertIs(is_code(one), True)
            for _ in range(3):
                plan = tuple(chance.choice([True, False]) for _ in range(chance.randrange(4)))
                word = self.beside(one, chance.choice([5, 9, 14, 30, 70]), plan, 150)
                words[word] = words.get(word, 0) + 1
        for word in ("going", "stuck", "room"):
            self.assertGreater(words[word], 20)


class WordsTest(unittest.TestCase):
    def test_places_on_the_pile(self):
        self.assertEqual([immediate(4, 7), immediate(2, 0), immediate(1, 1), immediate(0, 3)], [place(7), UNIT, YES, num(3)])


if __name__ == "__main__":
    unittest.main()
