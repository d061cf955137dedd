import unittest

from fivecups.sayings import is_so, layers, parts, questions_in, weight
from tests.samples import NO, YES, answers_of, ask, every_saying, so_by_words, widest_saying, within

Q0, Q1, Q2 = ask(0), ask(1), ask(2)


def reckoned(saying):
    """Parts, layers and weight, from the words of point 8."""
    word = saying[0]
    if word in ("yes", "no", "ask"):
        return (1, 0, 1)
    inside = [reckoned(one) for one in saying[1:]]
    heavy = [one[2] for one in inside] + [0, 0]
    s, t, u = heavy[:3]
    weights = {"not": s, "and": 2 * (s + t), "or": 2 * (s + t), "either": 8 * (s + t), "most": 12 * (s + t) + 4 * u}
    more = {"not": 0, "and": 1, "or": 1, "either": 2, "most": 3}[word]
    return (1 + sum(one[0] for one in inside), more + max(one[1] for one in inside), weights[word])


class IsSoTest(unittest.TestCase):
    def rows(self, saying, questions):
        told = [is_so(saying, answers) for answers in answers_of(questions)]
        for one in told:
            self.assertIsInstance(one, bool)
        return "".join("1" if one else "0" for one in told)

    def test_each_word_by_all_answers(self):
        self.assertEqual(self.rows(YES, 1), "11")
        self.assertEqual(self.rows(NO, 1), "00")
        self.assertEqual(self.rows(Q0, 2), "0011")
        self.assertEqual(self.rows(Q1, 2), "0101")
        self.assertEqual(self.rows(("not", Q0), 1), "10")
        self.assertEqual(self.rows(("and", Q0, Q1), 2), "0001")
        self.assertEqual(self.rows(("or", Q0, Q1), 2), "0111")
        self.assertEqual(self.rows(("either", Q0, Q1), 2), "0110")
        self.assertEqual(self.rows(("most", Q0, Q1, Q2), 3), "00010111")

    def test_sayings_within_sayings(self):
        for saying in every_saying():
            for answers in answers_of(3):
                self.assertIs(is_so(saying, answers), so_by_words(saying, answers), (saying, answers))

    def test_which_saying_is_which(self):
        self.assertEqual(self.rows(("and", ("not", Q0), Q1), 2), "0100")
        self.assertEqual(self.rows(("and", Q0, ("not", Q1)), 2), "0010")
        self.assertEqual(self.rows(("most", Q0, ("not", Q1), ("and", Q0, Q2)), 3), "00001101")

    def test_more_answers_than_the_saying_asks(self):
        for saying in every_saying()[::5]:
            for answers in answers_of(3):
                for more in ((0,), (1,), (1, 0, 1), (0,) * 7):
                    self.assertIs(is_so(saying, answers + more), so_by_words(saying, answers))

    def test_answers_to_ten_questions(self):
        for q in range(10):
            for k in range(10):
                answers = tuple(1 if j == k else 0 for j in range(10))
                self.assertIs(is_so(ask(q), answers), q == k)


class ReckoningTest(unittest.TestCase):
    def test_each_word_by_hand(self):
        low, heavy = ("and", Q0, Q1), ("either", Q0, Q1)
        rows = (
            (YES, 1, 0, 1),
            (NO, 1, 0, 1),
            (ask(7), 1, 0, 1),
            (("not", YES), 2, 0, 1),
            (low, 3, 1, 4),
            (("or", Q0, Q1), 3, 1, 4),
            (heavy, 3, 2, 16),
            (("most", Q0, Q1, Q2), 4, 3, 28),
            (("not", ("not", low)), 5, 1, 4),
            (("and", low, YES), 5, 2, 10),
            (("and", YES, heavy), 5, 3, 34),
            (("or", heavy, NO), 5, 3, 34),
            (("either", YES, low), 5, 3, 40),
            (("either", heavy, low), 7, 4, 160),
            (("most", low, Q0, heavy), 8, 5, 124),
            (("most", Q0, heavy, low), 8, 5, 220),
            (("most", heavy, low, Q0), 8, 5, 244),
        )
        for saying, many, deep, heavy in rows:
            self.assertEqual((parts(saying), layers(saying), weight(saying)), (many, deep, heavy), saying)

    def test_sayings_within_sayings(self):
        for saying in every_saying():
            self.assertEqual((parts(saying), layers(saying), weight(saying)), reckoned(saying), saying)

    def test_at_the_bounds(self):
        self.assertEqual((parts(widest_saying()), layers(widest_saying()), weight(widest_saying())), (24, 7, 1276))
        self.assertEqual((parts(within("not", 5)), layers(within("not", 5)), weight(within("not", 5))), (6, 0, 1))
        self.assertEqual((parts(within("and", 5)), layers(within("and", 5)), weight(within("and", 5))), (11, 5, 94))
        self.assertEqual((parts(within("most", 5)), layers(within("most", 5))), (16, 15))

    def test_no_weight_above_four_to_the_power_of_the_layers(self):
        for saying in every_saying():
            self.assertLessEqual(weight(saying), 4 ** layers(saying), saying)

    def test_however_many_within_one_another(self):
        saying = Q1
        for k in range(20000):
            saying = ("not", saying)
        self.assertEqual((parts(saying), layers(saying), weight(saying)), (20001, 0, 1))
        self.assertEqual(questions_in(saying), [1])
        self.assertEqual([is_so(saying, (0, 0)), is_so(saying, (0, 1))], [False, True])


class QuestionsInTest(unittest.TestCase):
    def test_a_rising_list_each_once(self):
        self.assertEqual(questions_in(YES), [])
        self.assertEqual(questions_in(NO), [])
        self.assertEqual(questions_in(ask(0)), [0])
        self.assertEqual(questions_in(("and", ask(9), ("or", ask(2), ("not", ask(9))))), [2, 9])
        self.assertEqual(questions_in(("most", ask(7), YES, ("either", ask(3), ask(5)))), [3, 5, 7])
        every = ask(0)
        for q in (7, 1, 9, 3, 5, 0, 2, 8, 4, 6):
            every = ("and", ask(q), every)
        self.assertEqual(questions_in(every), list(range(10)))

    def test_told_anew_when_the_list_was_changed(self):
        for saying in every_saying()[::5]:
            first = questions_in(saying)
            self.assertIsInstance(first, list)
            kept = list(first)
            first.append(99)
            first.reverse()
            self.assertEqual(questions_in(saying), kept)


if __name__ == "__main__":
    unittest.main()
