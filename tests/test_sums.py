import random
import unittest
from itertools import product

from fivecups.changed import behind, turned_back
from fivecups.cutting import cut
from fivecups.doing import done, table
from fivecups.sums import come, sums_of
from tests.samples import (
    all_sets,
    answers_of,
    backwards,
    chance_dance,
    chance_sums,
    comes,
    is_sums,
    is_tuple_of_numbers,
    one_then,
    plain_dance,
    reckoned,
    turnings_of,
)

STILL = (0, 1, 2)
RING = (1, 2, 0)
OTHER = (2, 0, 1)
SWAP = (0, 2, 1)
NOTHING = (0, (), ())


def put_otherwise(chance, dance):
    """A dance that does the same: steps undone again, or two for one, are put in, and none is left out."""
    cups, questions, steps = dance
    told = []
    for q, yes, no in steps:
        again = chance_dance(chance, cups, questions, chance.randrange(3))
        told += again[2] + turned_back(again)[2]
        one, other = chance.choice(turnings_of(cups)), chance.choice(turnings_of(cups))
        told += [(q, one, other), (q, one_then(backwards(one), yes), one_then(backwards(other), no))]
    return (cups, questions, tuple(told))


class SumsOfTest(unittest.TestCase):
    def assert_sums(self, dance):
        told = sums_of(dance)
        self.assertTrue(is_sums(told), told)
        asked = set(told[1]).union(*[mark[0] for mark in told[2]])
        self.assertLessEqual(asked, {step[0] for step in dance[2]})
        self.assertLessEqual(len(told[2]), 2 * len(dance[2]))
        for answers in answers_of(dance[1]):
            self.assertEqual(reckoned(told, answers), comes(dance, answers), (dance, answers))
        self.assertEqual(sums_of(dance), told)

    def test_every_step(self):
        for yes, no in product(turnings_of(3), repeat=2):
            self.assert_sums((3, 1, ((0, yes, no),)))
            self.assert_sums((3, 10, ((7, yes, no),)))

    def test_every_two_steps(self):
        for sides in product(turnings_of(3), repeat=4):
            for q in (0, 1):
                self.assert_sums((3, 2, ((1, sides[0], sides[1]), (q, sides[2], sides[3]))))

    def test_many_steps(self):
        chance = random.Random(31)
        for questions in range(1, 11):
            for many in (0, 1, 2, 3, 24):
                self.assert_sums(chance_dance(chance, 3, questions, many))
                self.assert_sums(plain_dance(3, questions, many))

    def test_two_hundred_steps(self):
        chance = random.Random(200)
        for questions in range(1, 11):
            self.assert_sums(chance_dance(chance, 3, questions, 200))
            self.assert_sums(plain_dance(3, questions, 200))

    def test_written_out(self):
        self.assertEqual(sums_of((3, 1, ((0, RING, STILL),))), (0, (), (((), 2), ((0,), 1))))
        self.assertEqual(sums_of((3, 1, ((0, RING, RING),))), (0, (), (((), 1),)))
        self.assertEqual(sums_of((3, 1, ((0, SWAP, SWAP),))), (1, (), ()))
        self.assertEqual(sums_of((3, 2, ((1, SWAP, STILL),))), (0, (1,), ()))
        self.assertEqual(sums_of((3, 2, ((1, STILL, SWAP),))), (1, (1,), ()))
        self.assertEqual(sums_of((3, 1, ((0, OTHER, RING),))), (0, (), (((0,), 1),)))
        turned = ((1, SWAP, STILL), (0, RING, RING), (1, SWAP, STILL))
        self.assertEqual(sums_of((3, 2, turned)), (0, (), (((1,), 1),)))
        turned = ((2, SWAP, STILL), (0, STILL, SWAP), (1, OTHER, RING))
        self.assertEqual(sums_of((3, 3, turned)), (1, (0, 2), (((1,), 1),)))
        turned = ((1, OTHER, RING), (2, SWAP, STILL), (0, SWAP, STILL))
        self.assertEqual(sums_of((3, 3, turned)), (0, (0, 2), (((0, 1, 2), 1),)))

    def test_without_steps(self):
        for questions in range(1, 11):
            self.assertEqual(sums_of((3, questions, ())), NOTHING)

    def test_steps_that_undo_one_another_leave_none(self):
        chance = random.Random(29)
        for questions in (1, 2, 3, 10):
            for many in (1, 2, 5, 12, 100):
                dance = chance_dance(chance, 3, questions, many)
                self.assertEqual(sums_of(behind(dance, turned_back(dance))), NOTHING)
                self.assertEqual(sums_of(behind(turned_back(dance), dance)), NOTHING)
        self.assertEqual(sums_of((3, 2, ((0, RING, SWAP), (0, RING, SWAP), (0, RING, STILL)))), NOTHING)
        self.assertEqual(sums_of((3, 1, ((0, STILL, STILL),) * 3)), NOTHING)

    def test_the_same_put_otherwise(self):
        chance = random.Random(3)
        for questions in range(1, 11):
            for many in (0, 1, 2, 6, 24):
                dance = chance_dance(chance, 3, questions, many)
                told = sums_of(dance)
                self.assertEqual(sums_of(put_otherwise(chance, dance)), told)
                self.assertEqual(sums_of(cut(dance)), told)
                self.assertEqual(sums_of(cut(put_otherwise(chance, dance))), told)

    def test_turns_on_both_sides_ask_nothing(self):
        for turning in turnings_of(3):
            for q in range(10):
                self.assertEqual(sums_of((3, 10, ((q, turning, turning),))), sums_of((3, 1, ((0, turning, turning),))))

    def test_turns_that_need_no_order(self):
        chance = random.Random(7)
        steps = [(q, chance.choice((STILL, RING, OTHER)), chance.choice((RING, OTHER))) for q in (0, 1, 2, 1, 0, 3)]
        told = sums_of((3, 4, tuple(steps)))
        for again in range(20):
            chance.shuffle(steps)
            self.assertEqual(sums_of((3, 4, tuple(steps))), told)

    def test_same_sums_just_where_the_same_is_done(self):
        chance = random.Random(30)
        for questions in (1, 2, 3):
            by_table, by_sums = {}, {}
            for many in (0, 1, 2, 3, 4):
                for again in range(600):
                    dance = chance_dance(chance, 3, questions, many)
                    by_table.setdefault(table(dance), set()).add(sums_of(dance))
                    by_sums.setdefault(sums_of(dance), set()).add(table(dance))
            self.assertEqual({len(some) for some in by_table.values()}, {1})
            self.assertEqual({len(some) for some in by_sums.values()}, {1})
            self.assertGreater(len(by_sums), 30)

    def test_what_is_handed_in_stays(self):
        dance = plain_dance(3, 4, 24)
        sums_of(dance)
        self.assertEqual(dance, plain_dance(3, 4, 24))


class ComeTest(unittest.TestCase):
    def assert_come(self, sums, answers):
        told = come(sums, answers)
        self.assertTrue(is_tuple_of_numbers(told))
        self.assertEqual(told, reckoned(sums, answers), (sums, answers))
        self.assertEqual(come(sums, answers), told)

    def test_without_marks(self):
        for begin in (0, 1):
            for flips in all_sets(3):
                for answers in answers_of(3):
                    self.assert_come((begin, flips, ()), answers)

    def test_one_mark(self):
        for begin, number, some, flips in product((0, 1), (1, 2), all_sets(2), all_sets(2)):
            for answers in answers_of(2):
                self.assert_come((begin, flips, ((some, number),)), answers)

    def test_up_to_forty_marks(self):
        chance = random.Random(40)
        for questions in range(1, 11):
            for marks in (0, 1, 2, 3, 7, 20, 39, 40):
                begin, flips, some = chance_sums(chance, questions, marks)
                for answers in answers_of(questions)[:: max(1, 2**questions // 32)]:
                    self.assert_come((0, flips, some), answers)
                    self.assert_come((1, flips, some), answers)
                    self.assert_come((begin, (), some), answers)

    def test_written_out(self):
        self.assertEqual(come(NOTHING, ()), STILL)
        self.assertEqual(come((1, (), ()), ()), SWAP)
        self.assertEqual(come((0, (), (((), 1),)), ()), RING)
        self.assertEqual(come((0, (0,), ()), (0,)), STILL)
        self.assertEqual(come((0, (0,), ()), (1,)), SWAP)
        self.assertEqual(come((1, (0,), ()), (1,)), STILL)
        self.assertEqual(come((0, (), (((0, 1), 1),)), (1, 1)), RING)
        self.assertEqual(come((0, (), (((0, 1), 1),)), (0, 1)), OTHER)
        self.assertEqual(come((0, (), (((), 2), ((0,), 1))), (1,)), RING)
        self.assertEqual(come((0, (), (((), 2), ((0,), 1))), (0,)), STILL)
        self.assertEqual(come((1, (), (((), 1),)), (0,)), (1, 0, 2))

    def test_answers_for_more_questions(self):
        chance = random.Random(20)
        for questions in (1, 2, 3, 5):
            for marks in (0, 1, 5, 32):
                sums = chance_sums(chance, questions, marks)
                for answers in answers_of(questions):
                    told = come(sums, answers)
                    for more in ((0,), (1,), (1, 0, 1, 1, 0)):
                        self.assertEqual(come(sums, answers + more), told)

    def test_of_the_sums_of_dances(self):
        chance = random.Random(24)
        for questions in (1, 2, 5, 10):
            for many in (0, 1, 2, 24, 200):
                dance = chance_dance(chance, 3, questions, many)
                sums = sums_of(dance)
                for answers in answers_of(questions):
                    self.assertEqual(come(sums, answers), done(dance, answers))

    def test_what_is_handed_in_stays(self):
        sums, answers = (1, (0, 2), (((), 2), ((0,), 1), ((1, 2), 2))), (1, 0, 1)
        come(sums, answers)
        self.assertEqual((sums, answers), ((1, (0, 2), (((), 2), ((0,), 1), ((1, 2), 2))), (1, 0, 1)))


if __name__ == "__main__":
    unittest.main()
