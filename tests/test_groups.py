import unittest

from fivecups.groups import group, word
from tests.samples import (
    CUPS,
    backwards,
    closed,
    is_group,
    is_tuple_of_numbers,
    one_then,
    some_turnings,
    turnings_of,
)

RING = (1, 2, 3, 4, 0)
SWAP = (1, 0, 2, 3, 4)
THREE = (1, 2, 0, 3, 4)


def first_words(cups, some):
    """Of each turning the first word that comes to it, all words gone through, the shorter ones ahead."""
    many = len(closed(cups, some))
    told = {}
    words = [((), tuple(range(cups)))]
    while len(told) < many:
        for numbers, turning in words:
            told.setdefault(turning, numbers)
        words = [
            (numbers + (number,), one_then(turning, one))
            for numbers, turning in words
            for number, one in enumerate(some)
        ]
    return told


class GroupTest(unittest.TestCase):
    def test_against_a_walk(self):
        sizes = set()
        for cups, some in some_turnings():
            told = group(cups, some)
            self.assertTrue(is_group(told), told)
            self.assertEqual(set(told), closed(cups, some), some)
            self.assertIn(tuple(range(cups)), told)
            self.assertEqual(group(cups, some), told)
            sizes.add((cups, len(told)))
        for size in ((3, 1), (3, 2), (3, 3), (3, 6), (4, 12), (4, 24), (5, 1), (5, 6), (5, 60), (5, 120)):
            self.assertIn(size, sizes)

    def test_none_still_and_alike_ones(self):
        for cups in CUPS:
            stays = tuple(range(cups))
            for some in ((), (stays,), (stays,) * 4):
                self.assertEqual(group(cups, some), (stays,))
            for turning in turnings_of(cups):
                self.assertEqual(group(cups, (turning, turning)), group(cups, (turning,)))
                self.assertEqual(group(cups, (stays, turning)), group(cups, (turning,)))
                self.assertEqual(group(cups, (backwards(turning),)), group(cups, (turning,)))

    def test_every_two_of_three_cups(self):
        for one in turnings_of(3):
            for other in turnings_of(3):
                self.assertEqual(group(3, (one, other)), tuple(sorted(closed(3, (one, other)))))
                self.assertEqual(group(3, (other, one)), group(3, (one, other)))

    def test_written_out(self):
        self.assertEqual(group(3, ((1, 0, 2),)), ((0, 1, 2), (1, 0, 2)))
        self.assertEqual(group(3, ((2, 0, 1),)), ((0, 1, 2), (1, 2, 0), (2, 0, 1)))
        self.assertEqual(group(3, ((1, 0, 2), (0, 2, 1))), tuple(turnings_of(3)))
        self.assertEqual(len(group(5, (RING, THREE))), 60)
        self.assertEqual(group(5, (RING, SWAP)), tuple(turnings_of(5)))
        self.assertEqual(group(5, (SWAP, THREE, (0, 1, 3, 2, 4), (0, 1, 2, 4, 3))), tuple(turnings_of(5)))

    def test_a_group_is_the_group_of_its_own(self):
        for cups, some in some_turnings()[::7]:
            told = group(cups, some)
            self.assertEqual(group(cups, told), told)


class WordTest(unittest.TestCase):
    def assert_words(self, cups, some):
        words = first_words(cups, some)
        for turning in turnings_of(cups):
            told = word(cups, some, turning)
            self.assertEqual(told, words.get(turning), (some, turning))
            if told is None:
                self.assertNotIn(turning, group(cups, some))
            else:
                self.assertTrue(is_tuple_of_numbers(told))
                self.assertEqual(self.done(cups, some, told), turning)

    def done(self, cups, some, numbers):
        turning = tuple(range(cups))
        for number in numbers:
            turning = one_then(turning, some[number])
        return turning

    def test_against_all_words_in_order(self):
        for cups, some in some_turnings():
            if cups < 5 or len(some) != 1:
                self.assert_words(cups, some)

    def test_of_one_of_five_cups(self):
        for turning in turnings_of(5)[::5]:
            self.assert_words(5, (turning,))

    def test_of_several_shortest_the_least(self):
        self.assertEqual(word(3, ((1, 2, 0), (2, 0, 1)), (2, 0, 1)), (1,))
        self.assertEqual(word(3, ((2, 0, 1), (1, 2, 0)), (2, 0, 1)), (0,))
        self.assertEqual(word(4, ((1, 0, 2, 3), (0, 1, 3, 2)), (1, 0, 3, 2)), (0, 1))
        self.assertEqual(word(4, ((0, 1, 3, 2), (1, 0, 2, 3)), (1, 0, 3, 2)), (0, 1))
        self.assertEqual(word(3, ((1, 0, 2), (0, 2, 1)), (2, 1, 0)), (0, 1, 0))

    def test_of_alike_ones_the_first(self):
        ring, stays = (1, 2, 0), (0, 1, 2)
        self.assertEqual(word(3, (ring, ring), ring), (0,))
        self.assertEqual(word(3, (stays, ring, ring), ring), (1,))
        self.assertEqual(word(3, (stays, ring, ring), (2, 0, 1)), (1, 1))

    def test_of_the_still_one_none(self):
        for cups, some in some_turnings():
            self.assertEqual(word(cups, some, tuple(range(cups))), ())

    def test_none_where_it_is_not_in_the_group(self):
        for cups in CUPS:
            for turning in turnings_of(cups)[1:]:
                self.assertIsNone(word(cups, (), turning))
                self.assertIsNone(word(cups, (tuple(range(cups)),), turning))
        self.assertIsNone(word(5, (RING, THREE), SWAP))

    def test_asked_again_and_what_is_handed_in(self):
        some = (RING, SWAP)
        first = [word(5, some, turning) for turning in turnings_of(5)]
        self.assertEqual([word(5, some, turning) for turning in turnings_of(5)], first)
        self.assertEqual(some, ((1, 2, 3, 4, 0), (1, 0, 2, 3, 4)))


if __name__ == "__main__":
    unittest.main()
