"""[63], [64]: the room that a run needs, and its piles; [10] of the machine."""

import random
import unittest

from kindsworn.collector import reached_words
from kindsworn.compiler import code_of, greatest_depth
from kindsworn.machine import Machine, end_of, roots
from kindsworn.readback import activations
from kindsworn.rooms import calls_open, greatest_pile, least_room, needs_of, piles_of, room_lacks
from kindsworn.taking import is_taken
from tests.anything import frozen
from tests.programs import BUILD, ENDLESS, HEAPING, TAILS, TEXTS, program, rounds
from tests.typed import random_program

PLANS = [(), (True,), (False, True), (True, True, False), (False,)]


def object_made(machine):
    """How many words the object has that the next row of a machine makes, None if it makes none."""
    row = machine.code()[0][machine.shown()["place"]]
    if row[0] in ("tuple", "record", "closure"):
        return 1 + row[-1]
    if row[0] == "sibling":
        return 1 + len(machine.code()[1][row[1]][2])
    return 2 if row[0] in ("make", "new") else None


def plain_needs(code, most):
    machine = Machine(code, 10000, ())
    found = []
    for done in range(most):
        words = object_made(machine)
        need = None if words is None else words + reached_words(machine.shown()["heap"], roots(machine))
        if machine.run(1) == 0:
            break
        if need is not None:
            found.append((done, need))
    return found


class NeedsTest(unittest.TestCase):
    def look(self, code, most):
        before = frozen(code)
        needs = needs_of(code, most)
        self.assertEqual(frozen(needs), frozen(plain_needs(code, most)))
        least = max([need for _, need in needs], default=0)
        self.assertEqual(frozen(least_room(code, most)), frozen(least))
        for room in sorted({0, 1, least // 2, least - 1, least, least + 1, least + 40}):
            if room < 0:
                continue
            lacks = [done for done, need in needs if need > room][:1]
            self.assertEqual(frozen(room_lacks(code, room, most)), frozen(lacks[0] if lacks else None))
            for plan in PLANS:
                word, machine, rows = end_of(code, room, plan, most)
                if lacks:
                    self.assertEqual([word, rows], ["room", lacks[0]])
                    # What is reached, and what is to be made, are together more than the room.
                    kept = reached_words(machine.shown()["heap"], roots(machine))
                    self.assertGreater(kept + object_made(machine), room)
                    self.assertEqual(machine.shown()["free"] - machine.shown()["half"] * room, kept)
                else:
                    self.assertIn(word, ("going", "ended"))
        again = frozen(needs)
        needs.clear()
        self.assertEqual([frozen(needs_of(code, most)), frozen(code)], [again, before])

    def test_programs(self):
        for text in [row[0] for row in TEXTS]:
            self.look(code_of(program(text)), 150)
        for text in ENDLESS:
            self.look(code_of(program(text)), 60)

    def test_loops(self):
        for text in TAILS + HEAPING:
            self.look(code_of(rounds(text, 3)), 200)

    def test_random_programs(self):
        chance = random.Random(63)
        taken = 0
        for _ in range(120):
            one = random_program(chance, chance.choice([3, 4]), 0)
            if is_taken(one):
                self.look(code_of(one), 80)
                taken += 1
        self.assertGreater(taken, 60)

    def test_nothing_is_made(self):
        code = code_of(program("if 1 < 2 then 3 else 4"))
        self.assertEqual([needs_of(code, 100), least_room(code, 100), room_lacks(code, 0, 100)], [[], 0, None])
        self.assertEqual(end_of(code, 0, (True,), 100)[::2], ("ended", 7))
        self.assertEqual([needs_of(code, 0), least_room(code, 0), room_lacks(code, 0, 0)], [[], 0, None])

    def test_by_hand(self):
        code = code_of(program("let x = (1, 2) in let y = {a = x} in (3, y)"))
        self.assertEqual([needs_of(code, 100), least_room(code, 100)], [[(4, 3), (8, 5), (14, 8)], 8])
        self.assertEqual([room_lacks(code, room, 100) for room in range(9)], [4, 4, 4, 8, 8, 14, 14, 14, None])
        self.assertEqual([room_lacks(code, 7, most) for most in (14, 15)], [None, 14])
        self.assertEqual([least_room(code, most) for most in (4, 5, 8, 9, 14, 15)], [0, 3, 3, 5, 5, 8])

    def test_what_is_kept_no_more(self):
        """Each round makes a pair that nothing keeps: the need does not grow."""
        code = code_of(program("rec f = fn n -> if n = 0 then 0 else match (n, n) with | (a, b) -> f (a - 1) end in f 50"))
        self.assertEqual(least_room(code, 5000), 4)
        code = code_of(rounds(TAILS[0], 50))
        self.assertEqual(least_room(code, 5000), 1)
        self.assertEqual([least_room(code_of(program(BUILD + f"build {many}")), 5000) for many in (1, 2, 10)], [6, 11, 51])


class PilesTest(unittest.TestCase):
    def look(self, code, most):
        before = frozen(code)
        piles, calls = piles_of(code, most), calls_open(code, most)
        self.assertEqual(frozen(greatest_pile(code, most)), frozen(max(piles)))
        depth = greatest_depth(code)
        for room, plan in [(10000, ()), (10000, (True,)), (least_room(code, most), (False, True))]:
            machine = Machine(code, room, plan)
            told = [(len(machine.shown()["pile"]), len(activations(machine)))]
            while len(told) <= most and machine.run(1) == 1:
                told.append((len(machine.shown()["pile"]), len(activations(machine))))
            self.assertEqual(frozen([piles, calls]), frozen([[words for words, _ in told], [many for _, many in told]]))
        for words, many in zip(piles, calls):
            self.assertLessEqual(words, many * depth + 3 * (many - 1))
        again = frozen((piles, calls))
        piles.clear()
        calls.clear()
        self.assertEqual([frozen((piles_of(code, most), calls_open(code, most))), frozen(code)], [again, before])

    def test_programs(self):
        for text in [row[0] for row in TEXTS]:
            self.look(code_of(program(text)), 60)
        for text in ENDLESS:
            self.look(code_of(program(text)), 40)

    def test_random_programs(self):
        chance = random.Random(64)
        for _ in range(60):
            one = random_program(chance, chance.choice([3, 4]), 0)
            if is_taken(one):
                self.look(code_of(one), 40)

    def test_by_hand(self):
        code = code_of(program("(fn x -> x) 5 + (fn x -> x) 6"))
        self.assertEqual(code[0], (("closure", 0, 0), ("push",), ("give", 51), ("call",), ("push",), ("closure", 1, 0), ("push",), ("give", 61), ("call",), ("op", "+"), ("back",), ("local", 0), ("back",), ("local", 0), ("back",)))
        self.assertEqual(piles_of(code, 100), [0, 0, 1, 1, 4, 4, 0, 1, 1, 2, 2, 5, 5, 1, 0, 0])
        self.assertEqual(calls_open(code, 100), [1, 1, 1, 1, 2, 2, 1, 1, 1, 1, 1, 2, 2, 1, 1, 1])
        self.assertEqual([greatest_pile(code, most) for most in (0, 1, 2, 4, 100)], [0, 0, 1, 4, 5])
        self.assertEqual([piles_of(code, 0), calls_open(code, 0), piles_of(code, 3), calls_open(code, 4)], [[0], [1], [0, 0, 1, 1], [1, 1, 1, 1, 2]])

    def test_few_rounds_and_many(self):
        for text in TAILS:
            codes = [code_of(rounds(text, many)) for many in (4, 7, 300)]
            piles = [greatest_pile(code, 10 ** 4) for code in codes]
            self.assertEqual(piles[0], piles[1], text)
            self.assertEqual(piles[0], piles[2], text)
            opens = max(calls_open(codes[2], 10 ** 4))
            self.assertLessEqual(opens, 2)
            self.assertLessEqual(piles[2], opens * greatest_depth(codes[2]) + 3 * (opens - 1))
        one = [text for text in TAILS if max(calls_open(code_of(rounds(text, 9)), 10 ** 4)) == 1]
        self.assertGreater(len(one), 3)
        for text in HEAPING:
            piles = [greatest_pile(code_of(rounds(text, many)), 10 ** 4) for many in (4, 5, 105)]
            self.assertEqual(piles[2] - piles[1], 100 * (piles[1] - piles[0]))
            self.assertGreater(piles[1], piles[0])
            self.assertEqual(max(calls_open(code_of(rounds(text, 60)), 10 ** 4)), max(calls_open(code_of(rounds(text, 5)), 10 ** 4)) + 55)


if __name__ == "__main__":
    unittest.main()
