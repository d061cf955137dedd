import unittest

from fivecups.chains import chain, there_backs
from fivecups.making import made
from tests.samples import (
    CUPS,
    backwards,
    closed,
    every_saying,
    is_even,
    is_group,
    rings_of_five,
    some_turnings,
    there_backs_of,
    turnings_of,
    weighed,
)

RING = (1, 2, 3, 4, 0)
SWAP = (1, 0, 2, 3, 4)
THREE = (1, 2, 0, 3, 4)
FAR = (0, 1, 2, 4, 3)

# How many turnings the group has, how many its there-and-back has, and some by which it comes.
GROUPS = (
    (1, 1, 3, ()),
    (1, 1, 5, ()),
    (2, 1, 3, ((1, 0, 2),)),
    (2, 1, 5, (SWAP,)),
    (3, 1, 3, ((1, 2, 0),)),
    (3, 1, 5, (THREE,)),
    (6, 3, 3, ((1, 2, 0), (1, 0, 2))),
    (6, 1, 5, (THREE, FAR)),
    (6, 3, 5, (THREE, SWAP)),
    (12, 4, 4, ((1, 2, 0, 3), (0, 2, 3, 1))),
    (12, 3, 5, (THREE, SWAP, FAR)),
    (12, 4, 5, (THREE, (0, 2, 3, 1, 4))),
    (24, 12, 4, ((1, 2, 3, 0), (1, 0, 2, 3))),
    (24, 12, 5, ((1, 2, 3, 0, 4), SWAP)),
    (60, 60, 5, (RING, THREE)),
    (120, 60, 5, (RING, SWAP)),
)


class ThereBacksTest(unittest.TestCase):
    def test_groups_of_every_size(self):
        for many, left, cups, some in GROUPS:
            turnings = tuple(sorted(closed(cups, some)))
            self.assertEqual(len(turnings), many)
            told = there_backs(cups, turnings)
            self.assertTrue(is_group(told), told)
            self.assertEqual(set(told), closed(cups, there_backs_of(turnings)))
            self.assertEqual(len(told), left)
            self.assertEqual(there_backs(cups, turnings), told)
            self.assertEqual(turnings, tuple(sorted(closed(cups, some))))

    def test_groups_of_all_some_turnings(self):
        for cups, some in some_turnings():
            turnings = tuple(sorted(closed(cups, some)))
            if len(turnings) < 60:
                told = there_backs(cups, turnings)
                self.assertTrue(is_group(told), told)
                self.assertEqual(set(told), closed(cups, there_backs_of(turnings)), some)


class ChainTest(unittest.TestCase):
    def assert_chain(self, cups, some):
        told = chain(cups, some)
        self.assertIsInstance(told, tuple)
        self.assertEqual(len(told), 2)
        way, groups = told
        self.assertIsInstance(groups, tuple)
        for one in groups:
            self.assertTrue(is_group(one), one)
        self.assertEqual(set(groups[0]), closed(cups, some))
        self.assertEqual(len(set(groups)), len(groups))
        for ahead, behind in zip(groups, groups[1:]):
            self.assertEqual(behind, there_backs(cups, ahead))
        if way == "down":
            self.assertEqual(groups[-1], (tuple(range(cups)),))
        else:
            self.assertEqual(way, "lasting")
            self.assertGreater(len(groups[-1]), 1)
            self.assertEqual(there_backs(cups, groups[-1]), groups[-1])
        even = [turning for turning in turnings_of(cups) if is_even(turning)]
        self.assertEqual(way == "lasting", cups == 5 and set(even) <= set(groups[0]))
        return way

    def test_some_turnings(self):
        ways = set()
        for cups, some in some_turnings():
            ways.add((cups, self.assert_chain(cups, some)))
        self.assertEqual(ways, {(3, "down"), (4, "down"), (5, "down"), (5, "lasting")})

    def test_every_two_of_three_cups(self):
        for one in turnings_of(3):
            for other in turnings_of(3):
                self.assert_chain(3, (one, other))

    def test_sizes_written_out(self):
        for sizes, cups, some in (
            ([1], 3, ()),
            ([1], 5, ((0, 1, 2, 3, 4),)),
            ([2, 1], 3, ((1, 0, 2),)),
            ([3, 1], 3, ((1, 2, 0), (1, 2, 0))),
            ([6, 3, 1], 3, ((1, 2, 0), (1, 0, 2))),
            ([8, 2, 1], 4, ((1, 2, 3, 0), (1, 0, 3, 2))),
            ([12, 4, 1], 4, ((1, 2, 0, 3), (0, 2, 3, 1))),
            ([24, 12, 4, 1], 4, ((1, 2, 3, 0), (1, 0, 2, 3))),
            ([5, 1], 5, (RING,)),
            ([10, 5, 1], 5, (RING, (0, 4, 3, 2, 1))),
            ([20, 5, 1], 5, (RING, (0, 2, 4, 1, 3))),
            ([60], 5, (RING, THREE)),
            ([120, 60], 5, (RING, SWAP)),
        ):
            told = chain(cups, some)
            self.assertEqual([len(one) for one in told[1]], sizes)
            self.assertEqual(told[0], "lasting" if sizes[-1] == 60 else "down")

    def test_none_still_one_and_alike_ones(self):
        for cups in CUPS:
            stays = tuple(range(cups))
            for some in ((), (stays,), (stays, stays)):
                self.assertEqual(chain(cups, some), ("down", ((stays,),)))
            for turning in turnings_of(cups)[1:]:
                told = ("down", (tuple(sorted(closed(cups, (turning,)))), (stays,)))
                self.assertEqual(chain(cups, (turning,)), told)
                self.assertEqual(chain(cups, (turning, turning)), told)
                self.assertEqual(chain(cups, (turning, backwards(turning), stays)), told)

    def test_where_it_lasts_all_turnings_of_every_dance_made_are_in_its_last_group(self):
        for some in ((RING, THREE), (RING, SWAP), (SWAP, THREE, (0, 1, 3, 2, 4), FAR)):
            way, groups = chain(5, some)
            self.assertEqual(way, "lasting")
            for saying in every_saying()[::9]:
                if weighed(saying) <= 128:
                    for ring in rings_of_five()[::5]:
                        steps = made(saying, 3, ring)[2]
                        self.assertLessEqual({side for step in steps for side in step[1:]}, set(groups[-1]))

    def test_asked_again_and_what_is_handed_in(self):
        some = (RING, SWAP)
        self.assertEqual(chain(5, some), chain(5, some))
        self.assertEqual(some, ((1, 2, 3, 4, 0), (1, 0, 2, 3, 4)))


if __name__ == "__main__":
    unittest.main()
