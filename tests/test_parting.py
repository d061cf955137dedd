import random
import unittest
from itertools import product

from fivecups.changed import asked_anew, behind, turned_back
from fivecups.errors import CupError, OtherSizes
from fivecups.fewest import sums_of_saying
from fivecups.parting import parted
from fivecups.sumdances import dance_of
from tests.samples import all_of, answers_of, ask, chance_dance, comes, is_tuple_of_numbers, plain_dance, turnings_of

STILL = (0, 1, 2)
RING = (1, 2, 0)
OTHER = (2, 0, 1)
SWAP = (0, 2, 1)


def tried(one, other):
    """All answers gone through in order."""
    for answers in answers_of(one[1]):
        if comes(one, answers) != comes(other, answers):
            return answers
    return None


def so_by_just(answers):
    """A dance that moves cups by just these answers."""
    sides = [ask(q) if answer else ("not", ask(q)) for q, answer in enumerate(answers)]
    return dance_of(sums_of_saying(all_of(sides), len(answers)), len(answers))


def changed_at_one_step(chance, dance):
    steps = list(dance[2])
    at = chance.randrange(len(steps))
    steps[at] = (steps[at][0], chance.choice(turnings_of(3)), steps[at][2])
    return (dance[0], dance[1], tuple(steps))


class PartedTest(unittest.TestCase):
    def assert_parted(self, one, other, told):
        for answers in (parted(one, other), parted(other, one), parted(one, other)):
            self.assertEqual(answers, told, (one, other))
            if told is not None:
                self.assertTrue(is_tuple_of_numbers(answers))

    def test_every_two_of_one_step(self):
        steps = [(0, yes, no) for yes, no in product(turnings_of(3), repeat=2)]
        for one, other in product(steps, repeat=2):
            dances = (3, 1, (one,)), (3, 1, (other,))
            self.assert_parted(dances[0], dances[1], tried(dances[0], dances[1]))

    def test_one_to_five_questions_against_all_answers(self):
        chance = random.Random(32)
        found = set()
        for questions in range(1, 6):
            for again in range(40):
                many = chance.choice((0, 1, 2, 3, 8, 24))
                one = chance_dance(chance, 3, questions, many)
                other = chance_dance(chance, 3, questions, chance.choice((0, 1, 2, 3, 24)))
                self.assert_parted(one, other, tried(one, other))
                if many:
                    other = changed_at_one_step(chance, one)
                    found.add(tried(one, other))
                    self.assert_parted(one, other, tried(one, other))
        self.assertIn(None, found)
        self.assertGreater(len(found), 15)

    def test_six_to_ten_questions(self):
        chance = random.Random(6)
        for questions in range(6, 11):
            for many in (1, 2, 12, 24):
                one = chance_dance(chance, 3, questions, many)
                for other in (chance_dance(chance, 3, questions, 24), changed_at_one_step(chance, one)):
                    self.assert_parted(one, other, tried(one, other))

    def test_more_questions_than_can_be_tried(self):
        chance = random.Random(60)
        one = chance_dance(chance, 3, 60, 24)
        self.assert_parted(one, one, None)
        both = behind(one, (3, 60, ((59, RING, STILL),)))
        self.assert_parted(one, both, (0,) * 59 + (1,))
        self.assert_parted(one, behind(one, (3, 60, ((0, SWAP, STILL),))), (1,) + (0,) * 59)

    def test_alike_ones(self):
        chance = random.Random(24)
        for questions in range(1, 11):
            for many in (0, 1, 2, 12):
                one = chance_dance(chance, 3, questions, many)
                again = chance_dance(chance, 3, questions, 5)
                self.assert_parted(one, one, None)
                self.assert_parted(one, behind(behind(one, again), turned_back(again)), None)
                self.assert_parted(behind(one, turned_back(one)), (3, questions, ()), None)
        steps = ((0, RING, STILL), (1, OTHER, RING))
        self.assert_parted((3, 2, steps), (3, 2, steps[::-1]), None)
        self.assert_parted((3, 2, ((0, SWAP, SWAP),)), (3, 2, ((1, SWAP, SWAP),)), None)

    def test_by_just_one_of_all_answers(self):
        for questions in range(1, 6):
            for answers in answers_of(questions):
                self.assert_parted(so_by_just(answers), (3, questions, ()), answers)

    def test_by_just_one_of_four_in_four_steps(self):
        steps = ((1, RING, STILL), (0, SWAP, STILL), (1, OTHER, STILL), (0, SWAP, STILL))
        self.assert_parted((3, 2, steps), (3, 2, ()), (1, 1))

    def test_by_few_of_the_answers_of_ten_questions(self):
        chance = random.Random(10)
        for again in range(8):
            answers = tuple(chance.randrange(2) for k in range(5))
            row = tuple(chance.sample(range(10), 5))
            least = [0] * 10
            for q, answer in zip(row, answers):
                least[q] = answer
            common = chance_dance(chance, 3, 10, 24)
            one = behind(common, asked_anew(so_by_just(answers), row, 10))
            self.assert_parted(one, common, tuple(least))

    def test_unlike_in_their_flips_alone(self):
        for questions in range(1, 11):
            for q in range(questions):
                least = tuple(1 if other == q else 0 for other in range(questions))
                self.assert_parted((3, questions, ((q, SWAP, STILL),)), (3, questions, ()), least)
                self.assert_parted((3, questions, ((q, STILL, SWAP),)), (3, questions, ()), (0,) * questions)

    def test_without_steps(self):
        for questions in range(1, 11):
            bare = (3, questions, ())
            self.assert_parted(bare, bare, None)
            self.assert_parted(bare, (3, questions, ((0, RING, RING),)), (0,) * questions)
            last = (0,) * (questions - 1) + (1,)
            self.assert_parted(bare, (3, questions, ((questions - 1, RING, STILL),)), last)

    def test_unlike_numbers_of_questions(self):
        for one, other in product(range(1, 11), repeat=2):
            for many in (0, 1, 24):
                if one != other:
                    with self.assertRaises(CupError) as caught:
                        parted(plain_dance(3, one, many), plain_dance(3, other, many))
                    self.assertIs(caught.exception.__class__, OtherSizes)

    def test_what_is_handed_in_stays(self):
        one, other = plain_dance(3, 4, 24), plain_dance(3, 4, 23)
        parted(one, other)
        self.assertEqual((one, other), (plain_dance(3, 4, 24), plain_dance(3, 4, 23)))


if __name__ == "__main__":
    unittest.main()
