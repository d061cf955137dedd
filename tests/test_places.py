import random
import unittest

from fivecups.making import made
from fivecups.places import comes_to, halvings
from fivecups.sayings import is_so, layers, weight
from tests.samples import CUPS, NO, YES, answers_of, comes, is_saying, plain_dance, turnings_of

LAYERS = {3: 3, 4: 3, 5: 4}
MOST_STEPS = {3: 8, 4: 4, 5: 4}


def depth(saying):
    """The layers as point 8 tells them."""
    word = saying[0]
    if word in ("yes", "no", "ask"):
        return 0
    more = {"not": 0, "and": 1, "or": 1, "either": 2, "most": 3}
    return more[word] + max(depth(part) for part in saying[1:])


def halved(many):
    told = 0
    while 2**told < many:
        told += 1
    return told


def some_dances(cups):
    chance = random.Random(22)
    turnings = turnings_of(cups)
    told = []
    for many in range(MOST_STEPS[cups] + 1):
        for questions in (1, 2, 3):
            told.append(plain_dance(cups, questions, many))
            steps = [
                (chance.randrange(questions), chance.choice(turnings), chance.choice(turnings)) for k in range(many)
            ]
            told.append((cups, questions, tuple(steps)))
    return told


class HalvingsTest(unittest.TestCase):
    def test_written_out(self):
        known = {0: 0, 1: 0, 2: 1, 3: 2, 4: 2, 5: 3, 8: 3, 9: 4, 16: 4, 17: 5, 200: 8}
        for cups in CUPS:
            for many in known:
                told = halvings(plain_dance(cups, 2, many))
                self.assertEqual(told, known[many], many)
                self.assertIs(told.__class__, int)

    def test_every_number_of_steps(self):
        for many in range(201):
            self.assertEqual(halvings(plain_dance(3, 2, many)), halved(many))


class ComesToTest(unittest.TestCase):
    def assert_comes_to(self, dance):
        cups = dance[0]
        every = [(answers, comes(dance, answers)) for answers in answers_of(dance[1])]
        for i in range(cups):
            for j in range(cups):
                saying = comes_to(dance, i, j)
                self.assertTrue(is_saying(saying), saying)
                self.assertLessEqual(depth(saying), halved(len(dance[2])) * LAYERS[cups])
                self.assertEqual(layers(saying), depth(saying))
                for answers, turning in every:
                    self.assertIs(is_so(saying, answers), turning[i] == j, (dance, i, j, answers))
                self.assertEqual(comes_to(dance, i, j), saying)

    def test_without_steps(self):
        for cups in CUPS:
            for questions in (1, 10):
                self.assert_comes_to((cups, questions, ()))

    def test_one_step_of_every_turning(self):
        for cups in CUPS:
            for turning in turnings_of(cups):
                self.assert_comes_to((cups, 2, ((1, turning, turning[::-1]),)))
                self.assert_comes_to((cups, 2, ((0, turning, turning),)))

    def test_as_many_steps_as_may_be(self):
        for cups in CUPS:
            for dance in some_dances(cups):
                self.assert_comes_to(dance)

    def test_many_questions(self):
        for cups in CUPS:
            self.assert_comes_to(plain_dance(cups, MOST_STEPS[cups], MOST_STEPS[cups]))
            steps = plain_dance(cups, 10, 14)[2]
            self.assert_comes_to((cups, 10, steps[10 - MOST_STEPS[cups] + 2 :][: MOST_STEPS[cups]]))

    def test_places_to_which_nothing_leads(self):
        still = (0, 1, 2, 3, 4)
        dance = (5, 1, ((0, still, still),) * 4)
        self.assert_comes_to(dance)
        self.assertEqual(comes_to((5, 1, ()), 2, 2), YES)
        self.assertEqual(comes_to((5, 1, ()), 2, 3), NO)

    def test_what_is_told_may_be_made(self):
        ring = (1, 2, 3, 4, 0)
        dance = plain_dance(3, 2, 2)
        for i in range(3):
            for j in range(3):
                saying = comes_to(dance, i, j)
                self.assertLessEqual(weight(saying), 128)
                for answers in answers_of(2):
                    so = comes(made(saying, 2, ring), answers) == ring
                    self.assertEqual(so, comes(dance, answers)[i] == j)

    def test_what_is_handed_in_stays(self):
        dance = plain_dance(5, 2, 4)
        comes_to(dance, 0, 4)
        halvings(dance)
        self.assertEqual(dance, plain_dance(5, 2, 4))


if __name__ == "__main__":
    unittest.main()
