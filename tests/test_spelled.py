import unittest

from fivecups.sayings import is_so, questions_in, weight
from fivecups.spelled import spelled
from tests.samples import NO, YES, answers_of, ask, every_saying, widest_saying

Q0, Q1, Q2 = ask(0), ask(1), ask(2)


def either_or_both(s, t):
    return ("not", ("and", ("not", s), ("not", t)))


def put_together(saying):
    """The saying that the words of point 9 put together."""
    word = saying[0]
    if word in ("yes", "no", "ask"):
        return saying
    inside = tuple(put_together(one) for one in saying[1:])
    if word in ("not", "and"):
        return (word,) + inside
    s, t = inside[:2]
    if word == "or":
        return either_or_both(s, t)
    if word == "either":
        return either_or_both(("and", s, ("not", t)), ("and", ("not", s), t))
    return either_or_both(("and", s, t), ("and", inside[2], either_or_both(s, t)))


class SpelledTest(unittest.TestCase):
    def assert_bare(self, saying):
        rest = [saying]
        while rest:
            part = rest.pop()
            self.assertIsInstance(part, tuple)
            self.assertIn((part[0], len(part)), (("yes", 1), ("no", 1), ("ask", 2), ("not", 2), ("and", 3)))
            if part[0] != "ask":
                rest.extend(part[1:])

    def test_each_word_by_hand(self):
        not0, not1 = ("not", Q0), ("not", Q1)
        self.assertEqual(spelled(YES), YES)
        self.assertEqual(spelled(NO), NO)
        self.assertEqual(spelled(ask(9)), ask(9))
        self.assertEqual(spelled(not0), not0)
        self.assertEqual(spelled(("and", Q0, Q1)), ("and", Q0, Q1))
        self.assertEqual(spelled(("or", Q0, Q1)), ("not", ("and", not0, not1)))
        self.assertEqual(
            spelled(("either", Q0, Q1)),
            ("not", ("and", ("not", ("and", Q0, not1)), ("not", ("and", not0, Q1)))),
        )
        self.assertEqual(
            spelled(("most", Q0, Q1, Q2)),
            (
                "not",
                (
                    "and",
                    ("not", ("and", Q0, Q1)),
                    ("not", ("and", Q2, ("not", ("and", not0, not1)))),
                ),
            ),
        )
        self.assertEqual(spelled(("not", ("or", Q0, Q1))), ("not", ("not", ("and", not0, not1))))

    def test_sayings_within_sayings(self):
        for saying in every_saying():
            told = spelled(saying)
            self.assert_bare(told)
            self.assertEqual(told, put_together(saying))

    def test_spelled_again_it_stays(self):
        for saying in every_saying():
            told = spelled(saying)
            self.assertEqual(spelled(told), told)

    def test_the_same_answers_weight_and_questions(self):
        for saying in every_saying():
            told = spelled(saying)
            self.assertEqual(weight(told), weight(saying))
            self.assertEqual(questions_in(told), questions_in(saying))
            for answers in answers_of(3):
                self.assertIs(is_so(told, answers), is_so(saying, answers))

    def test_what_is_handed_in_stays(self):
        saying = widest_saying()
        spelled(saying)
        self.assertEqual(saying, widest_saying())

    def test_however_many_within_one_another(self):
        saying = ("or", Q0, Q1)
        for k in range(20000):
            saying = ("not", saying)
        told = spelled(saying)
        for k in range(20000):
            self.assertEqual((told[0], len(told)), ("not", 2))
            told = told[1]
        self.assertEqual(told, spelled(("or", Q0, Q1)))


if __name__ == "__main__":
    unittest.main()
