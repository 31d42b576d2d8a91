"""[61], [62]: the machine beside the meaning; [8] to [10] over many programs."""

import random
import unittest

from kindsworn.bench import Bench
from kindsworn.checker import scheme_of_program
from kindsworn.compiler import code_of, greatest_depth
from kindsworn.machine import Machine
from kindsworn.readback import state_of
from kindsworn.rooms import calls_open, least_room, needs_of, piles_of, room_lacks
from kindsworn.runs import is_of_kind, run_of, states_of, trimmed
from kindsworn.sidebyside import alike_by_plans, are_marks, ends_alike, marks_of, silent_rows, strides
from kindsworn.taking import is_taken
from kindsworn.trees import places_of, size_of
from tests.anything import STRANGE, any_values, frozen
from tests.programs import ENDLESS, HEAPING, STUCK, TAILS, TEXTS, program, rounds
from tests.typed import random_program

PLANS = [(), (True,), (False,), (False, True), (True, False, False), (False, False, False, True)]


def plain_marks(one, room, plan, most):
    """The marks, by the words of the document; that the machine is never stuck is told on the way."""
    states = [trimmed(state) for state in states_of(one[1], 3 * most + 40)]
    machine = Machine(code_of(one), room, plan)
    marks = [0]
    assert state_of(machine) == states[0]
    for _ in range(most):
        now = machine.shown()
        row = machine.code()[0][now["place"]]
        if machine.run(1) == 0:
            break
        least = marks[-1] + (1 if row[0] in ("call", "tail") else 0)
        meant = state_of(machine)
        index = least
        while index <= marks[-1] + size_of(one[1]) + 2 and index < len(states) and states[index] != meant:
            index += 1
        assert index < len(states) and states[index] == meant
        marks.append(index)
    assert machine.shown()["word"] != "stuck"
    return marks


class MarksTest(unittest.TestCase):
    def marks(self, one, room, plan, most):
        before = frozen(one)
        found = marks_of(one, room, plan, most)
        self.assertEqual(frozen(found), frozen(plain_marks(one, room, plan, most)))
        self.assertIs(are_marks(one, room, plan, found), True)
        again = frozen(found)
        for short in (1, len(found) // 2 + 1):
            self.assertIs(are_marks(one, room, plan, found[:short]), True)
        found.append(0)
        self.assertIs(are_marks(one, room, plan, found), False)
        found.clear()
        self.assertEqual([frozen(marks_of(one, room, plan, most)), frozen(one)], [again, before])

    def test_programs(self):
        chance = random.Random(61)
        for text in [row[0] for row in TEXTS] + ENDLESS + [text.replace("ROUNDS", "4") for text in TAILS + HEAPING]:
            one = program(text)
            for plan in chance.sample(PLANS, 2):
                self.marks(one, chance.choice([3, 9, 20, 60]), plan, chance.choice([5, 40, 120]))

    def test_random_programs(self):
        chance = random.Random(9)
        taken = 0
        for _ in range(250):
            one = random_program(chance, chance.choice([3, 4, 5]), 0)
            if size_of(one[1]) <= 150 and is_taken(one):
                taken += 1
                self.marks(one, chance.choice([0, 4, 10, 30, 1000]), chance.choice(PLANS), 60)
        self.assertGreater(taken, 150)

    def test_most(self):
        one = program("let x = 1 + 2 in (x, x)")
        whole = marks_of(one, 50, (), 1000)
        for most in range(len(whole) + 2):
            self.assertEqual(marks_of(one, 50, (), most), whole[:most + 1])
        self.assertEqual(marks_of(one, 50, (), 0), [0])

    def test_rooms(self):
        """A row for which room lacks is not done."""
        one = program("let x = (1, 2) in let y = (x, x) in tell 5")
        whole = marks_of(one, 6, (True,), 100)
        self.assertEqual(marks_of(one, 1000, (), 100), whole)
        for room in range(6):
            lacks = room_lacks(code_of(one), room, 100)
            self.assertEqual(marks_of(one, room, (), 100), whole[:lacks + 1])

    def test_are_marks_of_any_value(self):
        one = program("(1, 2)")
        marks = marks_of(one, 9, (), 100)
        for thing in any_values() + STRANGE + [Bench(), tuple(marks), [], None, marks + [marks[-1]], [marks], [str(mark) for mark in marks], {0: 0}]:
            self.assertIs(are_marks(one, 9, (), thing), False)
        self.assertIs(are_marks(one, 9, (), [0]), True)
        for thing in ([False], [True], [1], [-1], [None], [0, None], [0, True], [0, [1]], [False] + marks[1:], [0] * 2900, [0] + [10 ** 39]):
            self.assertIs(are_marks(one, 9, (), thing), False, thing[:5])
        for at in range(len(marks)):
            for change in (-1, 1):
                other = marks[:at] + [marks[at] + change] + marks[at + 1:]
                self.assertIs(are_marks(one, 9, (), other), False)
            shorter = marks[:at] + marks[at + 1:]
            self.assertIs(are_marks(one, 9, (), shorter), shorter == marks[:-1])

    def test_where_there_are_none(self):
        """What is not taken may go on where the meaning is stuck."""
        one = program("match (1, 2, 3) with | (a, b) -> a + b end")
        whole = [marks_of(one, 90, (), most) for most in range(30)]
        least = whole.index(None)
        self.assertEqual(whole[least:], [None] * (30 - least))
        marks = whole[least - 1]
        self.assertEqual([whole[most] for most in range(least)], [marks[:most + 1] for most in range(least)])
        self.assertIs(are_marks(one, 90, (), marks), True)
        for more in (marks[-1], marks[-1] + 1, None):
            self.assertIs(are_marks(one, 90, (), marks + [more]), False)

    def test_truths_are_no_marks(self):
        one = program("1")
        marks = marks_of(one, 9, (), 100)
        self.assertEqual(marks, [0, 1, 1])
        self.assertIs(are_marks(one, 9, (), [True if mark == 1 else mark for mark in marks]), False)
        self.assertIs(are_marks(one, 9, (), [False if mark == 0 else mark for mark in marks]), False)

    def test_calls_go_on(self):
        for text in TAILS + HEAPING:
            one = rounds(text, 5)
            rows = code_of(one)[0]
            machine = Machine(code_of(one), 200, (True,))
            marks = marks_of(one, 200, (True,), 300)
            calls = 0
            for one_mark, other in zip(marks, marks[1:]):
                head = rows[machine.shown()["place"]][0]
                machine.step()
                if head in ("call", "tail"):
                    self.assertGreater(other, one_mark)
                    calls += 1
            self.assertGreater(calls, 4)

    def test_silent_rows_and_strides(self):
        for marks, silent, stride in [
                ([0], 0, 0), ([0, 0], 1, 0), ([0, 1], 0, 1), ([0, 0, 0, 2, 2, 5], 2, 3), ([0, 5, 5, 6, 6, 6, 6, 7], 3, 5), ([0, 1, 2, 3], 0, 1), ([0, 0, 1, 1, 2, 2, 2], 2, 1), ([7, 7, 7, 9], 2, 2), ([0, 0, 0, 0], 3, 0)]:
            before = list(marks)
            self.assertEqual(frozen([silent_rows(marks), strides(marks)]), frozen([silent, stride]))
            self.assertEqual(marks, before)

    def test_bounds(self):
        for text in TAILS + HEAPING:
            one = rounds(text, 9)
            marks = marks_of(one, 300, (), 400)
            self.assertLessEqual(strides(marks), len(places_of(one[1])) + 2)
            self.assertLess(silent_rows(marks), len(code_of(one)[0]))


class EndsTest(unittest.TestCase):
    def test_programs(self):
        for text, _, told in TEXTS:
            one = program(text)
            _, state, _ = run_of(one[1], 3000)
            before = frozen(one)
            for plan in PLANS:
                self.assertEqual(frozen(ends_alike(one, 400, plan, 3000)), frozen(("ended", state[0][1], told)))
            self.assertIs(alike_by_plans(one, 400, PLANS, 3000), True)
            self.assertEqual(frozen(one), before)

    def test_words(self):
        one = program("let u = tell 1 in let v = (1, 2) in let u = tell 2 in (v, v)")
        self.assertEqual([ends_alike(one, 0, (), 100), ends_alike(one, 3, (), 100), ends_alike(one, 6, (), 100)[0]], [("room", None, (1,)), ("room", None, (1, 2)), "ended"])
        whole = len(marks_of(one, 9, (), 100)) - 1
        for most in range(whole + 2):
            word, value, told = ends_alike(one, 9, (), most)
            self.assertEqual(word, "ended" if most >= whole else "going")
            self.assertEqual(value is None, most < whole)
            self.assertEqual(told, (1, 2)[:len(told)])

    def test_endless(self):
        for text in ENDLESS:
            one = program(text)
            for most in (0, 1, 55):
                word, value, told = ends_alike(one, 10 ** 6, (), most)
                self.assertEqual([word, value], ["going", None])
                self.assertEqual(told, tuple(range(1, len(told) + 1)))
        one = program("rec f = fn l -> f (Cons (1, l)) in f Nil")
        self.assertEqual(ends_alike(one, 100, (False, True), 10 ** 5), ("room", None, ()))

    def test_alike_by_plans(self):
        one = program(TEXTS[10][0])
        for plans in ([], [()], [(True,)], PLANS, PLANS * 3):
            before = frozen(plans)
            for room in (0, 5, 50):
                for most in (0, 9, 10 ** 4):
                    self.assertIs(alike_by_plans(one, room, plans, most), True)
            self.assertEqual(frozen(plans), before)

    def test_what_is_not_taken(self):
        for text in STUCK:
            told = ends_alike(program(text), 100, (), 500)
            self.assertEqual(told[:2], ("stuck", None))

    def test_random_programs(self):
        """[8], [9]: whatever room and plan, to the same end as the meaning, never stuck; [63], [64] with it."""
        chance = random.Random(62)
        ended = 0
        for _ in range(300):
            one = random_program(chance, chance.choice([3, 4, 5]), 0)
            if size_of(one[1]) > 150 or not is_taken(one):
                continue
            word, state, steps = run_of(one[1], 3000)
            code = code_of(one)
            least = least_room(code, 500)
            for room in sorted({0, least // 2, max(0, least - 1), least, least + 1, least + 50}):
                plan = tuple(chance.choice([True, False]) for _ in range(chance.randrange(4)))
                end = ends_alike(one, room, plan, 500)
                self.assertEqual(end[0] == "room", room < least)
                self.assertNotEqual(end[0], "stuck")
                self.assertEqual(end[2], state[3][:len(end[2])])
                if end[0] == "ended":
                    self.assertEqual([word, end[1], end[2]], ["ended", state[0][1], state[3]])
                    ended += 1
                    many, kind = scheme_of_program(one)
                    if many == 0:
                        self.assertIs(is_of_kind(one[0], kind, end[1]), True)
            self.assertIs(alike_by_plans(one, least, PLANS, 500), True)
            depth = greatest_depth(code)
            for pile, many in zip(piles_of(code, 500), calls_open(code, 500)):
                self.assertLessEqual(pile, many * depth + 3 * (many - 1))
        self.assertGreater(ended, 300)


def renamed(thing, names):
    """A term, a frame or a declaration with other names and makers."""
    if isinstance(thing, str):
        return names.get(thing, thing)
    return tuple(renamed(part, names) for part in thing) if isinstance(thing, tuple) else thing


class NamesTest(unittest.TestCase):
    def test_other_names(self):
        """[9]: what is called otherwise, and declared in another order, comes to the same."""
        chance = random.Random(90)
        taken = 0
        for _ in range(150):
            one = random_program(chance, chance.choice([3, 4]), 0)
            if not is_taken(one):
                continue
            taken += 1
            names = sorted({part for part in words_in(one[1]) if part[:1].islower() or "." in part} - HEADS - set("abc"))
            to = [f"q{at}" for at in range(len(names))]
            chance.shuffle(to)
            other = (tuple(chance.sample(one[0], len(one[0]))), renamed(one[1], dict(zip(names, to))))
            self.assertEqual(scheme_of_program(other), scheme_of_program(one))
            codes = [code_of(one), code_of(other)]
            self.assertEqual(needs_of(codes[0], 300), needs_of(codes[1], 300))
            self.assertEqual(piles_of(codes[0], 300), piles_of(codes[1], 300))
            self.assertEqual(calls_open(codes[0], 300), calls_open(codes[1], 300))
            ends = [ends_alike(program, 300, (True, False), 500) for program in (one, other)]
            self.assertEqual([ends[0][0], ends[0][2]], [ends[1][0], ends[1][2]])
            self.assertEqual(shape(ends[0][1]), shape(ends[1][1]))
            self.assertEqual(marks_of(one, 90, (), 60), marks_of(other, 90, (), 60))
        self.assertGreater(taken, 80)


HEADS = {"num", "truth", "name", "fn", "call", "let", "rec", "if", "tuple", "record", "field", "make", "match", "new", "get", "put", "op", "tell", "any", "bind"}


def words_in(thing):
    return {thing} if isinstance(thing, str) else {word for part in thing for word in words_in(part)} if isinstance(thing, tuple) else set()


def shape(value):
    """A value without what is in functions."""
    if isinstance(value, tuple) and value[:1] in (("closure",), ("loop",)):
        return value[0]
    return tuple(shape(part) for part in value) if isinstance(value, tuple) else value


if __name__ == "__main__":
    unittest.main()
