import random
import unittest

from fivecups.fewest import at_least, sums_of_saying
from fivecups.sums import come, sums_of
from tests.samples import (
    NO,
    YES,
    all_of,
    all_sets,
    answers_of,
    ask,
    chance_dance,
    chance_saying,
    deep_sayings,
    every_saying,
    heaviest_sayings,
    is_sums,
    is_whole,
    plain_dance,
    reckoned,
    so_by_words,
    widest_saying,
    with_questions,
)

STILL = (0, 1, 2)
RING = (1, 2, 0)


class AtLeastTest(unittest.TestCase):
    def assert_at_least(self, sums, many):
        self.assertTrue(is_whole(at_least(sums)))
        self.assertEqual(at_least(sums), many)
        self.assertEqual(at_least(sums), many)

    def test_marks_and_flips(self):
        sets = all_sets(10)
        halves = ((0, 0), (1, 1), (2, 1), (3, 2), (4, 2), (5, 3), (18, 9), (19, 10), (39, 20), (40, 20))
        for begin in (0, 1):
            for flips in (0, 1, 2, 3, 9, 10):
                for marks, half in halves:
                    some = tuple((one, 1 + len(one) % 2) for one in sets[:marks])
                    self.assert_at_least((begin, tuple(range(flips)), some), half if half > flips else flips)

    def test_written_out(self):
        self.assert_at_least((0, (), ()), 0)
        self.assert_at_least((1, (), ()), 0)
        self.assert_at_least((0, (), (((), 2),)), 1)
        self.assert_at_least((0, (4,), (((), 2), ((0,), 1), ((1,), 1))), 2)
        self.assert_at_least((0, (0, 1, 4), (((), 2), ((0,), 1), ((1,), 1))), 3)

    def test_no_more_than_the_steps_of_a_dance(self):
        chance = random.Random(33)
        for questions in range(1, 11):
            for many in (0, 1, 2, 3, 24, 200):
                for dance in (chance_dance(chance, 3, questions, many), plain_dance(3, questions, many)):
                    self.assertLessEqual(at_least(sums_of(dance)), many)

    def test_as_few_as_told_do(self):
        self.assert_at_least(sums_of((3, 2, ((0, RING, STILL), (1, RING, STILL)))), 2)
        self.assert_at_least(sums_of((3, 2, ((0, (0, 2, 1), STILL), (1, (0, 2, 1), STILL)))), 2)


class SumsOfSayingTest(unittest.TestCase):
    def assert_sums(self, saying, questions):
        told = sums_of_saying(saying, questions)
        self.assertTrue(is_sums(told), told)
        for answers in answers_of(questions):
            expected = RING if so_by_words(saying, answers) else STILL
            self.assertEqual(come(told, answers), expected, (saying, answers))
            self.assertEqual(reckoned(told, answers), expected)
        self.assertEqual(sums_of_saying(saying, questions), told)
        return told

    def test_every_word(self):
        for saying in every_saying():
            self.assert_sums(saying, 3)

    def test_bare_ones(self):
        for questions in range(1, 6):
            self.assertEqual(self.assert_sums(YES, questions), (0, (), (((), 1),)))
            self.assertEqual(self.assert_sums(NO, questions), (0, (), ()))
            for q in range(questions):
                self.assertEqual(self.assert_sums(ask(q), questions), (0, (), (((), 2), ((q,), 1))))
                self.assertEqual(self.assert_sums(("not", ask(q)), questions), (0, (), (((), 2), ((q,), 2))))

    def test_written_out(self):
        both = (0, (), (((), 1), ((0,), 2), ((0, 1), 1), ((1,), 2)))
        self.assertEqual(sums_of_saying(("and", ask(0), ask(1)), 2), both)
        self.assertEqual(sums_of_saying(("either", ask(0), ask(1)), 2), (0, (), (((), 2), ((0, 1), 1))))

    def test_up_to_24_parts_of_one_to_five_questions(self):
        chance = random.Random(34)
        for questions in range(1, 6):
            for parts in (2, 3, 5, 10, 17, 24):
                for again in range(4):
                    self.assert_sums(chance_saying(chance, questions, parts), questions)
        for saying in [widest_saying()] + deep_sayings() + heaviest_sayings():
            self.assert_sums(saying, 4)

    def test_more_questions_than_are_asked(self):
        for saying in every_saying()[::11]:
            told = sums_of_saying(saying, 3)
            for questions in (4, 5):
                self.assertEqual(self.assert_sums(saying, questions), told)

    def test_each_question_asked_once(self):
        for questions in range(1, 6):
            self.assert_sums(with_questions(questions), questions)

    def test_the_and_of_unlike_questions_has_all_sets(self):
        for questions in range(1, 6):
            told = self.assert_sums(all_of([ask(q) for q in range(questions)]), questions)
            self.assertEqual([mark[0] for mark in told[2]], all_sets(questions))
            self.assertEqual(at_least(told), 2 ** (questions - 1))
        told = self.assert_sums(all_of([ask(4), ("not", ask(1)), ask(3)]), 5)
        self.assertEqual(len(told[2]), 8)

    def test_alike_sayings_have_the_same_sums(self):
        chance = random.Random(9)
        for again in range(30):
            saying = chance_saying(chance, 4, 9)
            told = sums_of_saying(saying, 4)
            self.assertEqual(sums_of_saying(("not", ("not", saying)), 4), told)
            self.assertEqual(sums_of_saying(("and", saying, saying), 4), told)
            self.assertEqual(sums_of_saying(("either", saying, NO), 4), told)
            self.assertEqual(sums_of_saying(("most", saying, YES, NO), 4), told)

    def test_what_is_handed_in_stays(self):
        saying = widest_saying()
        sums_of_saying(saying, 3)
        self.assertEqual(saying, widest_saying())


if __name__ == "__main__":
    unittest.main()
