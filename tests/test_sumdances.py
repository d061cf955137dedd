import random
import unittest
from itertools import product

from fivecups.dances import look
from fivecups.fewest import at_least, sums_of_saying
from fivecups.sumdances import dance_of
from fivecups.sums import sums_of
from tests.samples import (
    all_sets,
    answers_of,
    chance_dance,
    chance_saying,
    chance_sums,
    comes,
    is_dance,
    reckoned,
)


def most_steps(sums):
    many = sums[0]
    for q in sums[1]:
        many += 1
    for some, number in sums[2]:
        many += 2 * len(some) + 1
    return many


class DanceOfTest(unittest.TestCase):
    def assert_dance(self, sums, questions):
        told = dance_of(sums, questions)
        self.assertTrue(is_dance(told), told)
        self.assertIs(look(told), True)
        self.assertEqual(told[:2], (3, questions))
        self.assertLessEqual(len(told[2]), most_steps(sums))
        self.assertGreaterEqual(len(told[2]), at_least(sums))
        self.assertEqual(sums_of(told), sums)
        for answers in answers_of(questions)[:: max(1, 2**questions // 16)]:
            self.assertEqual(comes(told, answers), reckoned(sums, answers))
        self.assertEqual(dance_of(sums, questions), told)

    def test_without_marks(self):
        for begin, flips in product((0, 1), all_sets(4)):
            self.assert_dance((begin, flips, ()), 4)
        self.assertEqual(dance_of((0, (), ()), 1), (3, 1, ()))

    def test_every_one_mark(self):
        for begin, flips, some, number in product((0, 1), all_sets(3), all_sets(3), (1, 2)):
            self.assert_dance((begin, flips, ((some, number),)), 3)

    def test_every_sums_of_one_question(self):
        for begin, flips, bare, signed in product((0, 1), ((), (0,)), (0, 1, 2), (0, 1, 2)):
            marks = tuple(mark for mark in (((), bare), ((0,), signed)) if mark[1])
            self.assert_dance((begin, flips, marks), 1)

    def test_up_to_forty_marks(self):
        chance = random.Random(35)
        for questions in range(1, 11):
            for marks in (0, 1, 2, 3, 12, 39, 40):
                for again in range(3):
                    self.assert_dance(chance_sums(chance, questions, marks), questions)

    def test_forty_marks_of_the_greatest_sets(self):
        sets = sorted(all_sets(10), key=len)[-40:]
        marks = tuple(sorted((some, 1 + k % 2) for k, some in enumerate(sets)))
        for begin in (0, 1):
            self.assert_dance((begin, tuple(range(10)), marks), 10)

    def test_more_questions_than_theirs(self):
        chance = random.Random(36)
        for questions in (1, 2, 5):
            for marks in (0, 1, 2, 20):
                sums = chance_sums(chance, questions, marks)
                for more in (questions + 1, 10):
                    self.assert_dance(sums, more)

    def test_of_sums_that_dances_have(self):
        chance = random.Random(37)
        for questions in range(1, 11):
            for many in (0, 1, 2, 24):
                self.assert_dance(sums_of(chance_dance(chance, 3, questions, many)), questions)

    def test_of_sums_that_sayings_have(self):
        chance = random.Random(38)
        for questions in range(1, 6):
            for parts in (1, 2, 6, 24):
                sums = sums_of_saying(chance_saying(chance, questions, parts), questions)
                self.assert_dance(sums, questions)
                self.assert_dance(sums, questions + 1)

    def test_what_is_handed_in_stays(self):
        sums = (1, (0, 2), (((), 2), ((0,), 1), ((1, 2), 2)))
        dance_of(sums, 3)
        self.assertEqual(sums, (1, (0, 2), (((), 2), ((0,), 1), ((1, 2), 2))))


if __name__ == "__main__":
    unittest.main()
