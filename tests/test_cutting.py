import random
import unittest

from fivecups.changed import behind, turned_back
from fivecups.cutting import cut
from tests.samples import CUPS, answers_of, comes, is_dance, plain_dance, turnings_of

STILL = (0, 1, 2)
RING = (1, 2, 0)
OTHER = (2, 0, 1)
SWAP = (0, 2, 1)


def places_to_cut(steps):
    """Where a rule of point 25 may be done: a still step, or the first of two that ask the same."""
    told = []
    for at, (q, yes, no) in enumerate(steps):
        if yes == no == tuple(range(len(yes))):
            told.append((at, "still"))
        if at + 1 < len(steps) and steps[at + 1][0] == q:
            told.append((at, "together"))
    return told


def cut_in_some_order(dance, pick):
    steps = list(dance[2])
    while places_to_cut(steps):
        at, rule = pick(places_to_cut(steps))
        if rule == "still":
            steps[at : at + 1] = []
        else:
            (q, yes, no), (asked, more, less) = steps[at : at + 2]
            steps[at : at + 2] = [(q, tuple(more[place] for place in yes), tuple(less[place] for place in no))]
    return dance[:2] + (tuple(steps),)


def dances_to_cut():
    """With few questions and many still sides, so that much meets."""
    chance = random.Random(25)
    told = []
    for cups in CUPS:
        some = turnings_of(cups)[:3] + [tuple(range(cups))] * 3
        for questions in (1, 2, 3):
            for many in (0, 1, 2, 3, 4, 5, 8, 12, 24):
                for again in range(6):
                    steps = [
                        (chance.randrange(questions), chance.choice(some), chance.choice(some)) for k in range(many)
                    ]
                    told.append((cups, questions, tuple(steps)))
    return told


class CutTest(unittest.TestCase):
    def assert_cut(self, steps, expected):
        self.assertEqual(cut((3, 3, steps)), (3, 3, expected))
        self.assertEqual(cut((3, 3, expected)), (3, 3, expected))

    def test_neighbours_that_ask_the_same(self):
        self.assert_cut(((0, RING, STILL), (0, SWAP, RING)), ((0, (2, 1, 0), RING),))
        self.assert_cut(((0, SWAP, RING), (0, RING, RING)), ((0, (1, 0, 2), OTHER),))

    def test_three_in_a_row(self):
        self.assert_cut(((2, RING, STILL), (2, RING, SWAP), (2, SWAP, SWAP)), ((2, (1, 0, 2), STILL),))
        self.assert_cut(((1, RING, STILL),) * 3, ())
        self.assert_cut(((1, RING, STILL),) * 4, ((1, RING, STILL),))

    def test_still_steps_go(self):
        self.assert_cut(((0, STILL, STILL),), ())
        self.assert_cut(((0, STILL, STILL), (1, STILL, STILL), (0, STILL, STILL)), ())
        self.assert_cut(((0, STILL, STILL), (1, RING, STILL), (2, STILL, STILL)), ((1, RING, STILL),))
        self.assert_cut(((0, RING, STILL), (1, STILL, STILL), (0, RING, SWAP)), ((0, OTHER, SWAP),))

    def test_still_on_one_side_alone_stays(self):
        self.assert_cut(((0, STILL, RING), (1, RING, STILL)), ((0, STILL, RING), (1, RING, STILL)))

    def test_what_becomes_still_lets_others_meet(self):
        meets = ((0, RING, SWAP), (1, RING, STILL), (1, OTHER, STILL), (0, RING, STILL))
        self.assert_cut(meets, ((0, OTHER, SWAP),))
        far = ((2, SWAP, SWAP), (0, RING, SWAP), (1, RING, SWAP), (1, OTHER, SWAP), (0, OTHER, SWAP), (2, SWAP, SWAP))
        self.assert_cut(far, ())
        self.assert_cut(far + ((1, RING, STILL),), ((1, RING, STILL),))

    def test_nothing_to_cut_stays(self):
        for cups in CUPS:
            for many in (0, 1, 2, 24, 200):
                dance = plain_dance(cups, 10, many)
                self.assertEqual(places_to_cut(dance[2]), [])
                self.assertEqual(cut(dance), dance)

    def test_a_dance_and_its_turned_back_one_are_cut_away(self):
        for cups in CUPS:
            for questions in (1, 2, 3, 10):
                for many in (0, 1, 2, 24, 100):
                    dance = plain_dance(cups, questions, many)
                    self.assertEqual(cut(behind(dance, turned_back(dance))), (cups, questions, ()))
                    self.assertEqual(cut(behind(turned_back(dance), dance)), (cups, questions, ()))

    def test_in_whatever_order(self):
        chance = random.Random(5)
        shorter = 0
        for dance in dances_to_cut():
            told = cut(dance)
            for pick in (min, max, chance.choice, chance.choice):
                self.assertEqual(cut_in_some_order(dance, pick), told, dance)
            self.assertEqual(cut(told), told)
            shorter += len(told[2]) < len(dance[2]) - 1
        self.assertGreater(shorter, 200)

    def test_against_the_doing(self):
        for dance in dances_to_cut() + [plain_dance(cups, questions, 200) for cups in CUPS for questions in (1, 2, 3)]:
            told = cut(dance)
            self.assertTrue(is_dance(told), told)
            self.assertEqual(told[:2], dance[:2])
            for answers in answers_of(dance[1]):
                self.assertEqual(comes(told, answers), comes(dance, answers))

    def test_one_question_becomes_one_step_at_most(self):
        for cups in CUPS:
            for many in (1, 2, 24, 200):
                self.assertLessEqual(len(cut(plain_dance(cups, 1, many))[2]), 1)

    def test_what_is_handed_in_stays(self):
        steps = ((0, RING, STILL), (0, OTHER, STILL), (1, STILL, STILL))
        dance = (3, 2, steps)
        self.assertEqual(cut(dance), (3, 2, ()))
        self.assertEqual(cut(dance), (3, 2, ()))
        self.assertEqual(dance, (3, 2, ((0, (1, 2, 0), (0, 1, 2)), (0, (2, 0, 1), (0, 1, 2)), (1, STILL, STILL))))


if __name__ == "__main__":
    unittest.main()
