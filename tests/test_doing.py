import unittest

from fivecups.doing import all_answers, done, done_by_steps, table
from tests.samples import CUPS, answers_of, is_tuple_of_numbers, plain_dance, turnings_of, walked


def some_answers(questions):
    every = answers_of(questions)
    return every if len(every) <= 16 else every[:: len(every) // 16] + every[-1:]


def is_list_of_turnings(thing):
    return isinstance(thing, list) and all(is_tuple_of_numbers(turning) for turning in thing)


class DoneTest(unittest.TestCase):
    def assert_done(self, dance, answers):
        told = walked(dance, answers)
        self.assertEqual(done(dance, answers), told[-1])
        self.assertTrue(is_tuple_of_numbers(done(dance, answers)))
        self.assertEqual(done_by_steps(dance, answers), told[1:])
        self.assertTrue(is_list_of_turnings(done_by_steps(dance, answers)))

    def test_written_out(self):
        dance = (3, 2, ((0, (1, 2, 0), (0, 1, 2)), (1, (0, 2, 1), (2, 1, 0))))
        self.assertEqual(done(dance, (1, 1)), (2, 1, 0))
        self.assertEqual(done(dance, (1, 0)), (1, 0, 2))
        self.assertEqual(done(dance, (0, 1)), (0, 2, 1))
        self.assertEqual(done(dance, (0, 0)), (2, 1, 0))
        self.assertEqual(done_by_steps(dance, (1, 1)), [(1, 2, 0), (2, 1, 0)])
        self.assertEqual(done_by_steps(dance, (0, 0)), [(0, 1, 2), (2, 1, 0)])

    def test_without_steps(self):
        for cups in CUPS:
            for questions in (1, 10):
                for answers in some_answers(questions):
                    self.assertEqual(done((cups, questions, ()), answers), tuple(range(cups)))
                    self.assertEqual(done_by_steps((cups, questions, ()), answers), [])

    def test_one_step_of_every_turning(self):
        for cups in CUPS:
            for turning in turnings_of(cups):
                dance = (cups, 2, ((1, turning, turning[::-1]),))
                for answers in answers_of(2):
                    self.assertEqual(done(dance, answers), turning if answers[1] else turning[::-1])
                    self.assert_done(dance, answers)

    def test_many_steps_against_a_walk_cup_by_cup(self):
        for cups in CUPS:
            for questions in (1, 2, 3, 7, 10):
                for many in (2, 3, 24, 200):
                    for answers in some_answers(questions):
                        self.assert_done(plain_dance(cups, questions, many), answers)

    def test_each_list_is_the_askers_own(self):
        for many in (0, 1, 24):
            dance = plain_dance(5, 3, many)
            first = done_by_steps(dance, (0, 1, 1))
            kept = list(first)
            first.append("more")
            first.clear()
            self.assertEqual(done_by_steps(dance, (0, 1, 1)), kept)
            self.assertEqual(dance, plain_dance(5, 3, many))


class AnswersTest(unittest.TestCase):
    def test_all_in_order(self):
        for questions in range(1, 11):
            told = all_answers(questions)
            self.assertIsInstance(told, list)
            self.assertTrue(all(is_tuple_of_numbers(answers) for answers in told))
            self.assertEqual(told, answers_of(questions))
            self.assertEqual(told, sorted(told))
            self.assertEqual(len(set(told)), 2**questions)

    def test_written_out(self):
        self.assertEqual(all_answers(1), [(0,), (1,)])
        self.assertEqual(all_answers(2), [(0, 0), (0, 1), (1, 0), (1, 1)])

    def test_each_list_is_the_askers_own(self):
        for questions in range(1, 11):
            told = all_answers(questions)
            told.append("more")
            told.clear()
            self.assertEqual(all_answers(questions), answers_of(questions))


class TableTest(unittest.TestCase):
    def test_against_done(self):
        for cups in CUPS:
            for questions in range(1, 7):
                for many in (0, 1, 2, 24, 200):
                    dance = plain_dance(cups, questions, many)
                    told = table(dance)
                    self.assertIsInstance(told, tuple)
                    self.assertTrue(all(is_tuple_of_numbers(turning) for turning in told))
                    self.assertEqual(told, tuple(done(dance, answers) for answers in answers_of(questions)))
                    self.assertEqual(table(dance), told)

    def test_written_out(self):
        dance = (3, 2, ((0, (1, 2, 0), (0, 1, 2)), (1, (0, 2, 1), (0, 1, 2))))
        self.assertEqual(table(dance), ((0, 1, 2), (0, 2, 1), (1, 2, 0), (2, 1, 0)))
        self.assertEqual(table((4, 1, ())), ((0, 1, 2, 3),) * 2)


if __name__ == "__main__":
    unittest.main()
