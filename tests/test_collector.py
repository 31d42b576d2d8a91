"""[49], [50]: the heap, and collections; [10] of what a collection keeps."""

import random
import unittest

from kindsworn.collector import collected, reached, reached_words
from kindsworn.heap import header_of, object_at, read_header, size_at, with_object
from tests.anything import frozen
from tests.plainmachine import collection


class HeapTest(unittest.TestCase):
    def test_headers(self):
        for sort in range(5):
            for extra in (0, 1, 255, 256, 10 ** 30):
                for many in (0, 1, 2, 254, 255):
                    word = header_of(sort, extra, many)
                    self.assertEqual(word, 2 * (5 * (256 * extra + many) + sort) + 1)
                    self.assertEqual(frozen(read_header(word)), frozen((sort, extra, many)))

    def test_objects(self):
        for address in range(5):
            for sort, extra, fields in [(0, 0, (11, 21)), (1, 7, (5,)), (2, 10 ** 20, (8,)), (3, 4, (-29,)), (4, 2, ()), (4, 0, tuple(range(1, 511, 2)))]:
                heap = tuple(range(1001, 1001 + 600, 2))
                before = frozen(heap)
                made = with_object(heap, address, sort, extra, fields)
                self.assertEqual(frozen(heap), before)
                self.assertIsInstance(made, tuple)
                self.assertEqual(made[:address], heap[:address])
                self.assertEqual(made[address], header_of(sort, extra, len(fields)))
                self.assertEqual(made[address + 1:address + 1 + len(fields)], fields)
                self.assertEqual(made[address + 1 + len(fields):], heap[address + 1 + len(fields):])
                self.assertEqual(object_at(made, address), (sort, extra, fields))
                self.assertEqual(size_at(made, address), len(fields) + 1)

    def test_at_the_end(self):
        self.assertEqual(with_object((0, 0, 0), 1, 3, 1, (5,)), (0, header_of(3, 1, 1), 5))
        self.assertEqual(with_object((0,), 0, 4, 1, ()), (header_of(4, 1, 0),))


def built(room, half, objects):
    """A heap of objects (sort, extra, fields), one behind the other, and their addresses.

    A field ("at", i) is the word of the object with the index i.
    """
    addresses = []
    free = half * room
    for _, _, fields in objects:
        addresses.append(free)
        free += 1 + len(fields)
    assert free <= (half + 1) * room
    heap = (0,) * (2 * room)
    for address, (sort, extra, fields) in zip(addresses, objects):
        words = tuple(2 * addresses[one[1]] if isinstance(one, tuple) else one for one in fields)
        heap = with_object(heap, address, sort, extra, words)
    return heap, addresses


def at(index):
    return ("at", index)


class ReachedTest(unittest.TestCase):
    def told(self, objects, roots, wanted, room=40):
        for half in (0, 1):
            heap, addresses = built(room, half, objects)
            words = tuple(2 * addresses[one[1]] if isinstance(one, tuple) else one for one in roots)
            before = frozen((heap, words))
            self.assertEqual(frozen(reached(heap, words)), frozen(tuple(addresses[index] for index in wanted)))
            self.assertEqual(reached_words(heap, words), sum(1 + len(objects[index][2]) for index in wanted))
            self.assertEqual(frozen((heap, words)), before)

    def test_reached(self):
        two = [(0, 0, (1, 11)), (3, 0, (at(0),)), (4, 1, ())]
        self.told(two, (), ())
        self.told(two, (5, 13, 1, 9, -29), ())
        self.told(two, (at(0),), (0,))
        self.told(two, (at(1),), (0, 1))
        self.told(two, (at(2), 5, at(2)), (2,))
        self.told(two, (at(2), at(1), at(0)), (0, 1, 2))
        self.told([], (5,), ())

    def test_shared_ones_and_rings(self):
        shared = [(0, 0, (at(2), at(2))), (0, 0, (at(2), at(0))), (2, 5, (1,))]
        self.told(shared, (at(1),), (0, 1, 2))
        self.told(shared, (at(0), at(1)), (0, 1, 2))
        self.told([(3, 0, (at(0),))], (at(0),), (0,))
        self.told([(3, 0, (at(1),)), (3, 1, (at(2),)), (3, 2, (at(0),)), (3, 3, (at(0),))], (at(1),), (0, 1, 2))

    def test_chains(self):
        many = 900
        chain = [(3, index, (at(index + 1),)) for index in range(many - 1)] + [(3, many, (5,))]
        self.told(chain, (at(0),), range(many), 2 * many)
        self.told(chain, (at(many - 3),), range(many - 3, many), 2 * many)
        back = [(3, 0, (5,))] + [(3, index, (at(index - 1),)) for index in range(1, many)]
        self.told(back, (at(many - 1),), range(many), 2 * many)


class CollectedTest(unittest.TestCase):
    def moved(self, room, objects, roots, order):
        """That from either half the objects come to stand in this order; tells what collected does from the first."""
        told = []
        for half in (0, 1):
            heap, addresses = built(room, half, objects)
            words = tuple(2 * addresses[one[1]] if isinstance(one, tuple) else one for one in roots)
            before = frozen((heap, words))
            found = collected(heap, room, half, words)
            self.assertEqual(frozen((heap, words)), before)
            self.assertEqual(frozen(collected(heap, room, half, words)), frozen(found))
            to = {}
            free = (1 - half) * room
            for index in order:
                to[index] = free
                free += 1 + len(objects[index][2])
            new = lambda one: 2 * to[one[1]] if isinstance(one, tuple) else one
            wanted = (0,) * (2 * room)
            for index in order:
                sort, extra, fields = objects[index]
                wanted = with_object(wanted, to[index], sort, extra, tuple(new(one) for one in fields))
            self.assertEqual(frozen(found), frozen((wanted, free, tuple(new(one) for one in roots))))
            self.assertEqual(free - (1 - half) * room, reached_words(heap, words))
            told.append(found)
        return told[0]

    def test_order(self):
        objects = [(0, 0, (at(3), 1)), (0, 0, (at(4), at(3))), (3, 7, (at(1),)), (4, 1, ()), (4, 2, (at(2), 5))]
        self.moved(20, objects, (at(0), at(1)), (0, 1, 3, 4, 2))
        self.moved(20, objects, (at(1), at(0)), (1, 0, 4, 3, 2))
        self.moved(20, objects, (5, at(2), 13), (2, 1, 4, 3))
        self.moved(20, objects, (at(3), at(0), at(3)), (3, 0))
        self.moved(20, objects, (), ())
        self.moved(20, objects, (5, 1, 9, 7, 3), ())

    def test_rings_and_roots_twice(self):
        ring = [(3, 0, (at(1),)), (3, 1, (at(2),)), (3, 2, (at(0),))]
        self.moved(6, ring, (at(1), at(1), at(0)), (1, 0, 2))
        self.moved(2, [(3, 0, (at(0),))], (at(0), at(0)), (0,))

    def test_room_just_enough(self):
        self.moved(3, [(0, 0, (1, 11))], (at(0),), (0,))
        self.moved(6, [(0, 0, (1, at(1))), (0, 0, (at(0), 5))], (at(1), at(0)), (1, 0))
        self.moved(0, [], (5, 5), ())
        self.moved(1, [(4, 3, ())], (5, at(0)), (0,))

    def test_again(self):
        """What is collected once more comes back to the first half, and stays in its order."""
        objects = [(0, 0, (at(1), at(2))), (2, 0, (5,)), (3, 0, (at(0),))]
        heap, free, roots = self.moved(9, objects, (at(2), 5), (2, 0, 1))
        again = collected(heap, 9, 1, roots)
        self.assertEqual(again[1:], (free - 9, tuple(word - 18 if word % 2 == 0 else word for word in roots)))
        self.assertEqual(collected(again[0], 9, 0, again[2]), (heap, free, roots))

    def test_chains(self):
        many = 700
        chain = [(3, index, (at(index + 1),)) for index in range(many - 1)] + [(3, many, (5,))]
        self.moved(2 * many, chain, (at(0),), range(many))
        self.moved(2 * many, [(3, 0, (5,))] + [(3, index, (at(index - 1),)) for index in range(1, many)], (at(many - 1),), range(many - 1, -1, -1))

    def test_wide_ones(self):
        self.moved(260, [(0, 0, (at(1),) * 255), (4, 0, ())], (at(0),), (0, 1))

    def test_random_heaps(self):
        chance = random.Random(50)
        for _ in range(300):
            many = chance.randrange(12)
            objects = []
            for _ in range(many):
                fields = tuple(at(chance.randrange(many)) if chance.randrange(2) else chance.choice([1, 5, 13, -9]) for _ in range(chance.randrange(4)))
                objects.append((chance.randrange(5), chance.randrange(300), fields))
            for half in (0, 1):
                room = 50 + chance.randrange(3)
                heap, addresses = built(room, half, objects)
                roots = tuple(chance.choice([5, 9] + [2 * address for address in addresses]) for _ in range(chance.randrange(5)))
                found = collected(heap, room, half, roots)
                self.assertEqual(found, collection(heap, room, half, roots))
                self.assertEqual(reached_words(heap, roots), found[1] - (1 - half) * room)
                self.assertEqual(len(reached(found[0], found[2])), len(reached(heap, roots)))


if __name__ == "__main__":
    unittest.main()
