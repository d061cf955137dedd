import unittest
from itertools import product

from fivecups.changed import answered, asked_anew, behind, turned_about, turned_back
from fivecups.errors import CupError, OtherSizes
from tests.samples import CUPS, answers_of, backwards, comes, is_dance, one_then, plain_dance, turnings_of

MANY = (0, 1, 2, 3, 24, 200)


def some_dances(cups, questions):
    """Of several sizes, begun at another step each."""
    dances = [plain_dance(cups, questions, many) for many in MANY]
    return dances + [(cups, questions, plain_dance(cups, questions, 24)[2][at:]) for at in (5, 16, 22)]


class ChangedTest(unittest.TestCase):
    def assert_other_sizes(self, change, *handed):
        with self.assertRaises(CupError, msg=repr(handed)) as caught:
            change(*handed)
        self.assertIs(caught.exception.__class__, OtherSizes)

    def assert_told(self, told, cups, questions):
        self.assertTrue(is_dance(told), told)
        self.assertEqual(told[:2], (cups, questions))


class BehindTest(ChangedTest):
    def test_against_the_doing_of_both(self):
        for cups in CUPS:
            for questions in (1, 3):
                for one, other in product(some_dances(cups, questions), repeat=2):
                    told = behind(one, other)
                    self.assert_told(told, cups, questions)
                    self.assertEqual(told[2], one[2] + other[2])
                    for answers in answers_of(questions):
                        self.assertEqual(comes(told, answers), one_then(comes(one, answers), comes(other, answers)))

    def test_without_steps(self):
        for cups in CUPS:
            dance, bare = plain_dance(cups, 10, 24), (cups, 10, ())
            self.assertEqual(behind(dance, bare), dance)
            self.assertEqual(behind(bare, dance), dance)
            self.assertEqual(behind(bare, bare), bare)

    def test_other_sizes(self):
        for cups, other in product(CUPS, repeat=2):
            for questions, others in product((1, 2, 9, 10), repeat=2):
                for many in (0, 3):
                    dances = (plain_dance(cups, questions, 3), plain_dance(other, others, many))
                    if (cups, questions) == (other, others):
                        self.assertEqual(len(behind(*dances)[2]), 3 + many)
                    else:
                        self.assert_other_sizes(behind, *dances)


class TurnedBackTest(ChangedTest):
    def test_against_the_doing(self):
        for cups in CUPS:
            for questions in (1, 3):
                for dance in some_dances(cups, questions):
                    told = turned_back(dance)
                    self.assert_told(told, cups, questions)
                    self.assertEqual([step[0] for step in told[2]], [step[0] for step in dance[2]][::-1])
                    for answers in answers_of(questions):
                        self.assertEqual(comes(told, answers), backwards(comes(dance, answers)))
                    self.assertEqual(turned_back(told), dance)
                    self.assertEqual(turned_back(dance), told)

    def test_step_by_step(self):
        dance = (3, 2, ((0, (1, 2, 0), (0, 2, 1)), (1, (2, 0, 1), (0, 1, 2))))
        self.assertEqual(turned_back(dance), (3, 2, ((1, (1, 2, 0), (0, 1, 2)), (0, (2, 0, 1), (0, 2, 1)))))
        self.assertEqual(turned_back((4, 7, ())), (4, 7, ()))


class TurnedAboutTest(ChangedTest):
    def test_against_the_doing_by_every_turning(self):
        for cups in CUPS:
            for questions in (1, 2):
                for dance in (plain_dance(cups, questions, many) for many in (0, 1, 7)):
                    for by in turnings_of(cups):
                        told = turned_about(dance, by)
                        self.assert_told(told, cups, questions)
                        self.assertEqual([step[0] for step in told[2]], [step[0] for step in dance[2]])
                        for answers in answers_of(questions):
                            about = one_then(one_then(backwards(by), comes(dance, answers)), by)
                            self.assertEqual(comes(told, answers), about)

    def test_many_steps(self):
        for cups in CUPS:
            dance = plain_dance(cups, 3, 200)
            by = turnings_of(cups)[3]
            for answers in answers_of(3):
                about = one_then(one_then(backwards(by), comes(dance, answers)), by)
                self.assertEqual(comes(turned_about(dance, by), answers), about)
            self.assertEqual(turned_about(turned_about(dance, by), backwards(by)), dance)
            self.assertEqual(turned_about(dance, tuple(range(cups))), dance)

    def test_step_by_step(self):
        dance = (3, 1, ((0, (1, 2, 0), (1, 0, 2)),))
        self.assertEqual(turned_about(dance, (1, 2, 0)), (3, 1, ((0, (1, 2, 0), (0, 2, 1)),)))
        self.assertEqual(turned_about(dance, (0, 2, 1)), (3, 1, ((0, (2, 0, 1), (2, 1, 0)),)))

    def test_other_sizes(self):
        for cups, other in product(CUPS, repeat=2):
            if cups != other:
                for by in turnings_of(other):
                    for many in (0, 1, 3):
                        self.assert_other_sizes(turned_about, plain_dance(cups, 2, many), by)


class AskedAnewTest(ChangedTest):
    def assert_anew(self, dance, row, questions):
        told = asked_anew(dance, row, questions)
        self.assert_told(told, dance[0], questions)
        self.assertEqual([step[1:] for step in told[2]], [step[1:] for step in dance[2]])
        for answers in answers_of(questions)[:: max(1, 2**questions // 64)]:
            self.assertEqual(comes(told, answers), comes(dance, tuple(answers[q] for q in row)))
        self.assertEqual(asked_anew(dance, row, questions), told)

    def test_every_row_of_up_to_three_questions(self):
        for cups in CUPS:
            for questions in (1, 2, 3):
                for others in (1, 2, 3):
                    for row in product(range(others), repeat=questions):
                        for many in (0, 1, 7):
                            self.assert_anew(plain_dance(cups, questions, many), row, others)

    def test_many_questions(self):
        for cups in CUPS:
            for many in (0, 1, 24, 200):
                dance = plain_dance(cups, 10, many)
                self.assert_anew(dance, (0,) * 10, 1)
                self.assert_anew(dance, (9,) * 10, 10)
                self.assert_anew(dance, tuple(range(9, -1, -1)), 10)
                self.assert_anew(dance, tuple(range(10)), 10)
                self.assert_anew(dance, (1, 0, 3, 2, 4, 0, 1, 3, 2, 4), 5)
                self.assert_anew(plain_dance(cups, 1, many), (7,), 10)

    def test_step_by_step(self):
        dance = (3, 2, ((0, (1, 2, 0), (0, 2, 1)), (1, (2, 0, 1), (0, 1, 2))))
        self.assertEqual(asked_anew(dance, (4, 2), 6), (3, 6, ((4,) + dance[2][0][1:], (2,) + dance[2][1][1:])))


class AnsweredTest(ChangedTest):
    def test_each_question_by_no_and_by_yes(self):
        for cups in CUPS:
            for questions in (1, 2, 3):
                for dance in some_dances(cups, questions):
                    for q, answer in product(range(questions), (0, 1)):
                        told = answered(dance, q, answer)
                        self.assert_told(told, cups, questions)
                        for answers in answers_of(questions):
                            ahead = answers[:q] + (answer,) + answers[q + 1 :]
                            self.assertEqual(comes(told, answers), comes(dance, ahead))
                        self.assertEqual(answered(dance, q, answer), told)

    def test_steps_one_by_one(self):
        for cups in CUPS:
            dance = plain_dance(cups, 10, 200)
            for q, answer in product(range(10), (0, 1)):
                for step, told in zip(dance[2], answered(dance, q, answer)[2], strict=True):
                    side = step[1] if answer else step[2]
                    self.assertEqual(told, (q, side, side) if step[0] == q else step)

    def test_without_steps(self):
        for answer in (0, 1):
            self.assertEqual(answered((3, 2, ()), 1, answer), (3, 2, ()))


class StaysTest(unittest.TestCase):
    def test_what_is_handed_in_stays(self):
        for cups in CUPS:
            dance, same = plain_dance(cups, 3, 24), plain_dance(cups, 3, 24)
            by = turnings_of(cups)[4]
            behind(dance, dance)
            turned_back(dance)
            turned_about(dance, by)
            asked_anew(dance, (2, 0, 1), 3)
            answered(dance, 1, 1)
            self.assertEqual((dance, by), (same, turnings_of(cups)[4]))


if __name__ == "__main__":
    unittest.main()
