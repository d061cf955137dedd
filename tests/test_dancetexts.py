import unittest

from fivecups.dancetexts import read_dance, show_dance
from fivecups.errors import BadText
from tests.samples import CUPS, is_dance, plain_dance, turnings_of

MANY = (0, 1, 2, 3, 24, 200)
GOOD = "cups 3 questions 2\n0 120 012\n1 012 201"
GOOD_DANCE = (3, 2, ((0, (1, 2, 0), (0, 1, 2)), (1, (0, 1, 2), (2, 0, 1))))


def plain_text(dance):
    """The words of point 11, put together by another road."""
    text = "cups " + repr(dance[0]) + " questions " + repr(dance[1])
    for q, yes, no in dance[2]:
        text += "\n" + repr(q)
        for side in (yes, no):
            text += " " + repr(side).replace("(", "").replace(")", "").replace(", ", "")
    return text


class ShowTest(unittest.TestCase):
    def test_written_out(self):
        self.assertEqual(show_dance(GOOD_DANCE), GOOD)
        self.assertEqual(show_dance((5, 10, ())), "cups 5 questions 10")
        self.assertEqual(
            show_dance((5, 10, ((9, (1, 2, 3, 4, 0), (0, 1, 2, 3, 4)),))), "cups 5 questions 10\n9 12340 01234"
        )
        self.assertEqual(
            show_dance((4, 1, ((0, (3, 2, 1, 0), (1, 0, 3, 2)),) * 2)), "cups 4 questions 1\n0 3210 1032\n0 3210 1032"
        )

    def test_of_all_sizes(self):
        for cups in CUPS:
            for questions in range(1, 11):
                for many in MANY:
                    dance = plain_dance(cups, questions, many)
                    self.assertEqual(show_dance(dance), plain_text(dance))


class ThereAndBackTest(unittest.TestCase):
    def assert_there_and_back(self, dance):
        text = show_dance(dance)
        read = read_dance(text)
        self.assertEqual(read, dance)
        self.assertTrue(is_dance(read), read)
        self.assertEqual(show_dance(read), text)

    def test_of_all_sizes(self):
        for cups in CUPS:
            for questions in range(1, 11):
                for many in MANY:
                    self.assert_there_and_back(plain_dance(cups, questions, many))

    def test_every_turning_on_both_sides(self):
        for cups in CUPS:
            for turning in turnings_of(cups):
                self.assert_there_and_back((cups, 1, ((0, turning, turning[::-1]),)))

    def test_every_question(self):
        for questions in range(1, 11):
            for q in range(questions):
                self.assert_there_and_back((3, questions, ((q, (1, 2, 0), (0, 1, 2)),)))

    def test_unlike_dances_have_unlike_texts(self):
        dances = [plain_dance(cups, questions, many) for cups in CUPS for questions in range(1, 11) for many in MANY]
        self.assertEqual(len({show_dance(dance) for dance in dances}), len(dances))


class RefusedTest(unittest.TestCase):
    def assert_refused(self, text, row):
        with self.assertRaises(BadText, msg=repr(text)) as caught:
            read_dance(text)
        self.assertIs(caught.exception.__class__, BadText)
        self.assertEqual(caught.exception.row, row, text)
        self.assertIs(caught.exception.row.__class__, int)
        self.assertEqual(read_dance(GOOD), GOOD_DANCE)

    def assert_head_refused(self, head):
        self.assert_refused(head, 0)
        self.assert_refused(head + "\n0 120 012", 0)
        self.assert_refused(head + "\nnothing of the sort\n\n", 0)

    def assert_step_refused(self, step):
        """As the first step, as a later one, with good and bad rows behind it."""
        self.assert_refused("cups 3 questions 2\n" + step, 1)
        self.assert_refused(GOOD + "\n" + step, 3)
        self.assert_refused("cups 3 questions 2\n" + step + "\n0 120 012", 1)
        self.assert_refused(GOOD + "\n" + step + "\n2 1 2\n" + step, 3)

    def test_no_signs_at_all(self):
        self.assert_refused("", 0)
        self.assert_refused("\n", 0)
        self.assert_refused("\n\n", 0)
        self.assert_refused("\n" + GOOD, 0)

    def test_words_of_the_first_row(self):
        for head in (
            "cup 3 questions 2",
            "Cups 3 questions 2",
            "CUPS 3 questions 2",
            "dance 3 questions 2",
            "questions 3 cups 2",
            "questions 2 cups 3",
            "cups 3 question 2",
            "cups 3 Questions 2",
            "cups 3 cups 2",
            "cups questions 3 2",
            "3 cups 2 questions",
            "cups 3, questions 2",
        ):
            self.assert_head_refused(head)

    def test_too_many_or_too_few_words_in_the_first_row(self):
        for head in (
            "cups",
            "cups 3",
            "cups 3 questions",
            "cups 3 2",
            "3 questions 2",
            "cups 3 questions 2 2",
            "cups 3 questions 2 steps",
            "cups cups 3 questions 2",
            "cups 3 3 questions 2",
            "cups 3 questions questions 2",
            "cups3 questions 2",
            "cups 3questions 2",
            "cups 3 questions2",
        ):
            self.assert_head_refused(head)

    def test_blanks_in_the_first_row(self):
        for head in (
            "cups  3 questions 2",
            "cups 3  questions 2",
            "cups 3 questions  2",
            " cups 3 questions 2",
            "cups 3 questions 2 ",
            "  cups 3 questions 2",
            "cups 3 questions 2  ",
            " ",
            "   ",
            "cups  questions 2",
            "cups 3 questions ",
            "cups\t3 questions 2",
            "cups 3 questions 2\r",
        ):
            self.assert_head_refused(head)

    def test_cups(self):
        for word in ("2", "6", "0", "1", "7", "9", "03", "003", "+3", "-3", "3.", "3.0", "3_", "x", "three", "13"):
            self.assert_head_refused(f"cups {word} questions 2")
        for word in ("30", "33", "345", "3 ", "/", ":", "\u0663", "\uff13", "\u00b3", "3" * 3900, "0" * 3900 + "3"):
            self.assert_head_refused(f"cups {word} questions 2")

    def test_questions(self):
        for word in ("0", "11", "12", "20", "00", "02", "010", "002", "+2", "-2", "2.", "1_0", "x", "two", "100"):
            self.assert_head_refused(f"cups 3 questions {word}")
        for word in ("2 ", "/", ":", "1:", "\u0662", "\uff12", "\u00b2", "1" * 3900, "0" * 3900 + "2"):
            self.assert_head_refused(f"cups 3 questions {word}")

    def test_rows_left_out_twice_exchanged_without_signs(self):
        self.assert_refused("0 120 012\n1 012 201", 0)
        self.assert_refused("0 120 012\ncups 3 questions 2\n1 012 201", 0)
        self.assert_refused("0 120 012\n1 012 201\ncups 3 questions 2", 0)
        self.assert_refused("cups 3 questions 2\ncups 3 questions 2\n0 120 012", 1)
        self.assert_refused("cups 3 questions 2\n0 120 012\ncups 3 questions 2", 2)
        self.assert_refused("\ncups 3 questions 2\n0 120 012", 0)
        self.assert_refused("cups 3 questions 2\n\n0 120 012", 1)
        self.assert_refused("cups 3 questions 2\n0 120 012\n\n1 012 201", 2)
        self.assert_refused("cups 3 questions 2\n0 120 012\n \n1 012 201", 2)

    def test_steps_left_out_twice_or_exchanged_are_other_dances(self):
        head, one, other = GOOD.split("\n")
        first, second = GOOD_DANCE[2]
        self.assertEqual(read_dance(head), (3, 2, ()))
        self.assertEqual(read_dance("\n".join((head, other))), (3, 2, (second,)))
        self.assertEqual(read_dance("\n".join((head, other, one))), (3, 2, (second, first)))
        self.assertEqual(read_dance("\n".join((head, one, one))), (3, 2, (first, first)))

    def test_a_line_feed_at_an_end(self):
        self.assert_refused("cups 3 questions 2\n", 1)
        self.assert_refused(GOOD + "\n", 3)
        self.assert_refused(GOOD + "\n\n", 3)
        self.assert_refused(show_dance(plain_dance(5, 10, 200)) + "\n", 201)

    def test_words_of_a_step(self):
        for step in ("0", "0 120", "120 012", "0 120 012 012", "0 120012", "0120 012", "0 0 120 012", "0 120 012 0"):
            self.assert_step_refused(step)

    def test_blanks_in_a_step(self):
        for step in ("0  120 012", "0 120  012", " 0 120 012", "0 120 012 ", "  0 120 012", "0 120 012  ", " ", "  "):
            self.assert_step_refused(step)
        for step in ("0 120 ", " 120 012", "0  012", "0\t120 012", "0 120 012\r", "0 1 2 0 0 1 2"):
            self.assert_step_refused(step)

    def test_a_steps_question(self):
        for q in ("2", "3", "10", "-1", "-0", "+0", "00", "01", "0.", "x", "q0", "/", ":", "\u0660", "\u00b9", "1" * 3900):
            self.assert_step_refused(f"{q} 120 012")
        for questions in range(1, 11):
            self.assert_refused(f"cups 3 questions {questions}\n{questions} 120 012", 1)
            last = questions - 1
            self.assertEqual(read_dance(f"cups 3 questions {questions}\n{last} 120 012")[2][0][0], last)

    def test_a_steps_turnings(self):
        bad = ["12", "1", "1201", "0120", "0123", "01234", "110", "000", "122", "123", "130", "320", "320", "12x", "x20"]
        bad += ["1,2", "-12", "-120", "120.", "+12", "(1,2,0)", "1_2", "12/", "1:0", "\u0661\u0662\u0660", "12\u00b2"]
        for turning in bad:
            self.assert_step_refused(f"0 {turning} 012")
            self.assert_step_refused(f"0 012 {turning}")
            self.assert_step_refused(f"0 {turning} {turning}")

    def test_turnings_of_other_cups(self):
        for cups in CUPS:
            for other in (2, 3, 4, 5, 6):
                if other != cups:
                    good, bad = "01234"[:cups], "012345"[:other]
                    self.assert_refused(f"cups {cups} questions 1\n0 {good} {good}\n0 {bad} {good}", 2)
                    self.assert_refused(f"cups {cups} questions 1\n0 {good} {good}\n0 {good} {bad}", 2)

    def test_the_first_row_of_several(self):
        self.assert_refused("cups 2 questions 0\n9 9 9", 0)
        self.assert_refused("cups 3 questions 2\n2 120 012\n0 12 012\n", 1)
        self.assert_refused("cups 3 questions 2\n0 120 012\n0 12 012\n\n2 120 012", 2)
        rows = show_dance(plain_dance(5, 10, 200)).split("\n")
        for row in (1, 2, 100, 200):
            bad = rows[:row] + ["10 12340 01234"] + rows[row + 1 :]
            self.assert_refused("\n".join(bad), row)
            self.assert_refused("\n".join(bad) + "\n", row)

    def test_another_dances_sort_of_text(self):
        for text in ("yes", "(and q0 q1)", "cups 3 questions 2 ; 0 120 012", "0 120 012", "(3, 1, ())"):
            self.assert_refused(text, 0)


if __name__ == "__main__":
    unittest.main()
