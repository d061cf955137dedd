import unittest

from fivecups.dances import look
from fivecups.errors import NoDance
from tests.samples import CUPS, good_steps, turnings_of


def bad_turnings(cups):
    good = tuple(range(cups))
    return (
        (),
        good[:-1],
        good[1:],
        good + (0,),
        good + (cups,),
        (1,) + good[1:],
        good[:-1] + (0,),
        good[:-1] + (cups,),
        (-1,) + good[1:],
        (-cups,) + good[1:],
        tuple(k + 1 for k in good),
        good[:-1] + (10**20,),
    )


class LookTest(unittest.TestCase):
    def assert_refused(self, dance, word, at):
        with self.assertRaises(NoDance, msg=repr(dance)) as caught:
            look(dance)
        self.assertEqual((caught.exception.word, caught.exception.at), (word, at), dance)

    def test_let_by(self):
        for cups in CUPS:
            for questions in range(1, 11):
                for many in (0, 1, 2, 24, 200):
                    self.assertIs(look((cups, questions, good_steps(cups, questions, many))), True)

    def test_every_turning_is_let_by_on_both_sides(self):
        for cups in CUPS:
            for turning in turnings_of(cups):
                self.assertIs(look((cups, 1, ((0, turning, turning[::-1]),))), True)

    def test_cups(self):
        for cups in (2, 6, 1, 0, -1, -3, -5, 10**20):
            self.assert_refused((cups, 1, ()), "cups", -1)

    def test_questions(self):
        for cups in CUPS:
            for questions in (0, 11, -1, -10, 10**20):
                self.assert_refused((cups, questions, ()), "questions", -1)

    def test_a_steps_question(self):
        for cups in CUPS:
            for questions in (1, 4, 10):
                for at in (0, 3, 199):
                    steps = good_steps(cups, questions, 200)
                    for q in (-1, -questions, questions, questions + 1, 10**20, -(10**20)):
                        bad = steps[:at] + ((q, steps[at][1], steps[at][2]),) + steps[at + 1 :]
                        self.assert_refused((cups, questions, bad), "question", at)

    def test_a_steps_turnings(self):
        for cups in CUPS:
            for at in (0, 5, 23):
                steps = good_steps(cups, 3, 24)
                others = tuple(tuple(range(other)) for other in (2, 3, 4, 5, 6) if other != cups)
                for turning in bad_turnings(cups) + others:
                    yes = steps[:at] + ((0, turning, steps[at][2]),) + steps[at + 1 :]
                    self.assert_refused((cups, 3, yes), "yes", at)
                    no = steps[:at] + ((0, steps[at][1], turning),) + steps[at + 1 :]
                    self.assert_refused((cups, 3, no), "no", at)

    def test_of_several_the_first_that_is_due(self):
        good, bad = (0, 1, 2), (0, 1, 1)
        self.assert_refused((2, 0, ((-1, bad, bad),)), "cups", -1)
        self.assert_refused((6, 1, ((0, bad, good),)), "cups", -1)
        self.assert_refused((3, 11, ((11, bad, bad),)), "questions", -1)
        self.assert_refused((3, 0, ((0, good, good),)), "questions", -1)
        self.assert_refused((3, 2, ((2, bad, bad),)), "question", 0)
        self.assert_refused((3, 2, ((2, good, bad),)), "question", 0)
        self.assert_refused((3, 2, ((1, bad, bad),)), "yes", 0)
        self.assert_refused((3, 2, ((1, good, bad), (2, bad, bad))), "no", 0)
        self.assert_refused((3, 2, ((1, bad, good), (2, bad, bad))), "yes", 0)
        self.assert_refused((3, 2, ((1, good, good), (0, good, bad), (5, good, good))), "no", 1)
        self.assert_refused((3, 2, ((1, good, good), (0, bad, good), (5, good, good))), "yes", 1)

    def test_asked_again_the_same_is_told(self):
        dance = (3, 1, ((0, (1, 2, 0), (0, 1, 2)), (1, (0, 1, 2), (0, 1, 2))))
        self.assert_refused(dance, "question", 1)
        self.assert_refused(dance, "question", 1)
        self.assertEqual(dance, (3, 1, ((0, (1, 2, 0), (0, 1, 2)), (1, (0, 1, 2), (0, 1, 2)))))


if __name__ == "__main__":
    unittest.main()
