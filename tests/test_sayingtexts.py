import unittest
from itertools import product

from fivecups.errors import BadText
from fivecups.sayingtexts import read_saying, show_saying
from tests.samples import INSIDE, NO, YES, ask, every_saying, widest_saying, within

BAD = """
|q|q00|q01|q012|q000|q1000|q0000|q-1|q+1|q1.|q1_0|q1a|qq1|Q1|q 1|1|0q|q1q
yes |  yes| yes|yes  no|yes no|(yes)|(no)|(q0)|yes()|()|(|)|(()|())|Yes|YES|y|ye|yess|no)|(yes|yes)|nott
not|not q0|(not)|(not )|( not q0)|(not q0 )|(not  q0)|(not q0|not q0)|(not q0))|((not q0)|((not q0))|(not q0) |(not (q0))
(not q0 q1)|(not q0 q1 q2)|(not(not q0))|(not not q0)|(nott q0)|(Not q0)|(no q0)|(yes q0)|(ask 0)|(q0 q1)|[not q0]
(and)|(and q0)|(and q0 q1 q2)|(and  q0 q1)|(and q0  q1)|(and q0 q1 )|( and q0 q1)|(and q0 q1|and q0 q1)|and q0 q1
(and q0,q1)|(andq0 q1)|(and q0q1)|(and (not q0)(not q1))|(and (not q0) (not q1)|(and (not q0 q1))|(and (not q0) q1))
(or)|(or q0)|(or q0 q1 q2)|(or (not q0))|(nor q0 q1)|(either)|(either q0)|(either q0 q1 q2)|(eithe q0 q1)|(xor q0 q1)
(most)|(most q0)|(most q0 q1)|(most q0 q1 q2 q3)|(most q0 q1 q2) q3|(most q0 q1 q2)q3|(most q0 q1 q2)(|(not q0) yes
yes (not q0)|q0 q0|(and q0 q1) (and q0 q1)|(and q0 (or q1 q2)|(and q0 or q1 q2)|(and q01 q1)|(and q0 q1000)
(and q0 yess)|(most q0 (and q1) q2)|(most q0 (and q1 q2 q3) q4)|q1)(|)q1(|(not )q0|(not q0) )|~|;|"yes"|'yes'
"""


class ShowTest(unittest.TestCase):
    def test_each_word_by_hand(self):
        rows = (
            (YES, "yes"),
            (NO, "no"),
            (ask(0), "q0"),
            (ask(9), "q9"),
            (ask(10), "q10"),
            (ask(100), "q100"),
            (ask(999), "q999"),
            (("not", YES), "(not yes)"),
            (("and", ask(0), ask(1)), "(and q0 q1)"),
            (("or", ask(1), ask(0)), "(or q1 q0)"),
            (("either", NO, ask(12)), "(either no q12)"),
            (("most", ask(3), ask(2), ask(1)), "(most q3 q2 q1)"),
            (("not", ("and", ("not", ask(0)), ("or", NO, ask(1)))), "(not (and (not q0) (or no q1)))"),
        )
        for saying, text in rows:
            self.assertEqual(show_saying(saying), text)
            self.assertEqual(read_saying(text), saying)

    def test_each_saying_is_read_from_its_text(self):
        texts = {}
        for saying in every_saying():
            text = show_saying(saying)
            self.assertEqual(read_saying(text), saying)
            self.assertEqual(show_saying(read_saying(text)), text)
            self.assertEqual(texts.setdefault(text, saying), saying)

    def test_questions_of_one_two_and_three_figures(self):
        for q in range(1000):
            self.assertEqual(show_saying(ask(q)), "q" + str(q))
            told = read_saying("(not q" + str(q) + ")")
            self.assertEqual(told, ("not", ("ask", q)))
            self.assertIsInstance(told[1][1], int)

    def test_twelve_brackets_within_one_another(self):
        for word in INSIDE:
            saying = within(word, 12)
            text = show_saying(saying)
            self.assertEqual(text.count("("), 12)
            self.assertEqual(read_saying(text), saying)
        text = "(not " * 12 + "q7" + ")" * 12
        saying = read_saying(text)
        self.assertEqual(show_saying(saying), text)

    def test_texts_of_many_signs(self):
        saying = ask(123)
        for k in range(8):
            saying = ("and", saying, saying)
        text = show_saying(saying)
        self.assertGreater(len(text), 2500)
        self.assertEqual(read_saying(text), saying)

    def test_all_told_are_tuples(self):
        rest = [read_saying(show_saying(widest_saying()))]
        while rest:
            part = rest.pop()
            self.assertIsInstance(part, tuple)
            self.assertIsInstance(part[0], str)
            if part[0] != "ask":
                rest.extend(part[1:])


class RefusedTest(unittest.TestCase):
    def assert_bad(self, text):
        with self.assertRaises(BadText, msg=repr(text)) as caught:
            read_saying(text)
        self.assertEqual(caught.exception.row, 0)

    def assert_bad_or_written_again(self, text):
        try:
            saying = read_saying(text)
        except BadText as error:
            self.assertEqual(error.row, 0)
        else:
            self.assertEqual(show_saying(saying), text)

    def test_by_hand(self):
        for text in BAD.strip("\n").replace("\n", "|").split("|"):
            self.assert_bad(text)

    def test_line_feeds(self):
        for text in ("\n", "yes\n", "\nyes", "(and q0\nq1)", "(and q0 q1)\n", "(and\nq0 q1)", "q\n1", "q1\n", "q\n"):
            self.assert_bad(text)

    def test_signs_that_are_no_figures(self):
        for number in range(32, 127):
            for text in ("q" + chr(number), "q1" + chr(number), "q" + chr(number) + "1"):
                if not chr(number).isdigit() and chr(number) != "%":
                    self.assert_bad(text)
        for text in ("q\u0661", "q\u00b2", "q1\u0661", "q\uff11"):
            self.assert_bad(text)

    def test_a_blank_put_in_or_left_out(self):
        for saying in every_saying()[::9]:
            text = show_saying(saying)
            for k in range(len(text) + 1):
                self.assert_bad(text[:k] + " " + text[k:])
                self.assert_bad(text[:k] + "\n" + text[k:])
                if text[k : k + 1] == " ":
                    self.assert_bad(text[:k] + text[k + 1 :])
                    self.assert_bad(text[:k] + "\n" + text[k + 1 :])

    def test_a_bracket_put_in_or_left_out(self):
        for saying in every_saying()[::9]:
            text = show_saying(saying)
            for k in range(len(text) + 1):
                self.assert_bad(text[:k] + "(" + text[k:])
                self.assert_bad(text[:k] + ")" + text[k:])
                if text[k : k + 1] in ("(", ")"):
                    self.assert_bad(text[:k] + text[k + 1 :])

    def test_another_sign_in_the_place_of_a_bracket_or_a_blank(self):
        text = "(most (not q0) (either yes q1) no)"
        for k in range(len(text)):
            for number in range(32, 127):
                if text[k] in "() " and chr(number) not in (text[k], "%"):
                    self.assert_bad(text[:k] + chr(number) + text[k + 1 :])

    def test_too_few_or_too_many_sayings(self):
        for word in INSIDE:
            for many in range(6):
                text = "(" + " ".join([word] + ["q0"] * many) + ")"
                if many == INSIDE[word]:
                    self.assertEqual(read_saying(text), (word,) + (ask(0),) * many)
                else:
                    self.assert_bad(text)
                    self.assert_bad("(not " + text + ")")

    def test_cut_off_anywhere(self):
        text = "(most (not q12) (either yes (and q1 q345)) (or no q0))"
        for k in range(len(text)):
            self.assert_bad(text[:k])
            self.assert_bad(text[k + 1 :])

    def test_no_other_class_is_raised(self):
        pieces = ("(", ")", " ", "\n", "q", "0", "17", "yes", "not", "and", "most")
        for many in range(5):
            for row in product(pieces, repeat=many):
                self.assert_bad_or_written_again("".join(row))
        for sign in ("(", ")", " ", "\n", "q", "0", "(not ", "(and q0 ", "q0 ", "yes"):
            self.assert_bad((sign * 4000)[:4000])


if __name__ == "__main__":
    unittest.main()
