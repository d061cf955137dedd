import unittest

from fivecups.rings import is_even, is_ring, leading, rings_of
from tests.samples import CUPS, every_turning, is_tuple_of_numbers, turnings_of


def count_of_rings(turning):
    # Each place is led on until its least companion is known; those that stay count as one each.
    leasts = set()
    for place in range(len(turning)):
        least, now = place, turning[place]
        while now != place:
            least, now = min(least, now), turning[now]
        leasts.add(least)
    return len(leasts)


def rings_among(cups):
    return [turning for turning in turnings_of(cups) if count_of_rings(turning) == 1]


class RingsOfTest(unittest.TestCase):
    def test_some_by_hand(self):
        self.assertEqual(rings_of((0, 1, 2)), [])
        self.assertEqual(rings_of((0, 1, 2, 3, 4)), [])
        self.assertEqual(rings_of((1, 2, 0)), [(0, 1, 2)])
        self.assertEqual(rings_of((2, 0, 1)), [(0, 2, 1)])
        self.assertEqual(rings_of((0, 2, 1)), [(1, 2)])
        self.assertEqual(rings_of((3, 2, 1, 0)), [(0, 3), (1, 2)])
        self.assertEqual(rings_of((0, 3, 1, 2)), [(1, 3, 2)])
        self.assertEqual(rings_of((1, 2, 3, 4, 0)), [(0, 1, 2, 3, 4)])
        self.assertEqual(rings_of((4, 3, 1, 2, 0)), [(0, 4), (1, 3, 2)])
        self.assertEqual(rings_of((2, 3, 4, 1, 0)), [(0, 2, 4), (1, 3)])

    def test_of_every_turning(self):
        for turning in every_turning():
            rings = rings_of(turning)
            self.assertIsInstance(rings, list)
            self.assertEqual(rings, sorted(rings))
            for ring in rings:
                self.assertTrue(is_tuple_of_numbers(ring))
                self.assertEqual(ring[0], min(ring))
                for k, place in enumerate(ring):
                    self.assertEqual(turning[place], ring[(k + 1) % len(ring)])
            moved = [place for place in range(len(turning)) if turning[place] != place]
            self.assertEqual(sorted(place for ring in rings for place in ring), moved)

    def test_told_anew_when_the_list_was_changed(self):
        for turning in every_turning():
            first = rings_of(turning)
            kept = list(first)
            first.append((9, 9))
            first.reverse()
            self.assertEqual(rings_of(turning), kept)


class KindsTest(unittest.TestCase):
    def test_is_ring_of_every_turning(self):
        for turning in every_turning():
            self.assertIs(is_ring(turning), count_of_rings(turning) == 1)

    def test_how_many_are_rings(self):
        self.assertEqual([len([t for t in turnings_of(cups) if is_ring(t)]) for cups in CUPS], [2, 6, 24])

    def test_is_ring_by_hand(self):
        self.assertIs(is_ring((1, 2, 3, 4, 0)), True)
        self.assertIs(is_ring((1, 2, 3, 0)), True)
        self.assertIs(is_ring((1, 0, 3, 2)), False)
        self.assertIs(is_ring((1, 2, 3, 0, 4)), False)
        self.assertIs(is_ring((1, 0, 3, 4, 2)), False)
        self.assertIs(is_ring((0, 1, 2)), False)

    def test_is_even_of_every_turning(self):
        for turning in every_turning():
            # Places and rings, taken from one another, are even together just where the pairs are.
            self.assertIs(is_even(turning), (len(turning) - count_of_rings(turning)) % 2 == 0)

    def test_is_even_by_pairs(self):
        for turning in every_turning():
            cups = range(len(turning))
            pairs = [(x, y) for y in cups for x in cups if x < y and turning[x] > turning[y]]
            self.assertIs(is_even(turning), len(pairs) % 2 == 0)

    def test_is_even_by_hand(self):
        self.assertIs(is_even((0, 1, 2)), True)
        self.assertIs(is_even((1, 0, 2)), False)
        self.assertIs(is_even((1, 2, 0)), True)
        self.assertIs(is_even((1, 2, 3, 0)), False)
        self.assertIs(is_even((1, 2, 3, 4, 0)), True)


class LeadingTest(unittest.TestCase):
    def test_each_two_rings(self):
        for cups in CUPS:
            for one in rings_among(cups):
                for other in rings_among(cups):
                    by = leading(one, other)
                    self.assertTrue(is_tuple_of_numbers(by))
                    self.assertEqual(sorted(by), list(range(cups)))
                    self.assertEqual(tuple(by[one[by.index(k)]] for k in range(cups)), other)
                    self.assertEqual(leading(one, other), by)


if __name__ == "__main__":
    unittest.main()
