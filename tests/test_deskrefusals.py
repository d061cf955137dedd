import unittest

from fivecups.dancetexts import read_dance
from fivecups.desk import Desk
from fivecups.errors import BadText, CupError, NoName, NoRing, NoRow, OtherSizes, TooHeavy
from fivecups.sayingtexts import read_saying
from tests.desksamples import DANCES, HEAVY, SAYINGS, full_desk, in_a_row
from tests.samples import bad_rings, weighed

GOOD_ROWS = (
    "say s (or q0 (not q1))",
    "dance three cups 3 questions 1 ; 0 120 012",
    "make new s 3 12340",
    "text s",
    "do s 101",
    "do three 01",
    "cut three",
    "back three",
    "alike three o",
    "marks three",
    "chain 3",
    "chain 5 12340 10234",
)


class RefusalTest(unittest.TestCase):
    def setUp(self):
        self.desk = full_desk()

    def assert_refused(self, told, kind, **fields):
        with self.assertRaises(CupError, msg=told) as caught:
            self.desk.say(told)
        self.assertIs(caught.exception.__class__, kind, told)
        self.assertEqual(vars(caught.exception), fields, told)
        for name, text in (SAYINGS | DANCES).items():
            self.assertEqual(self.desk.say("text " + name), text)
        for name in ("new", "none"):
            with self.assertRaises(NoName):
                self.desk.say("text " + name)

    def assert_no_row(self, row):
        self.assert_refused(row, NoRow)
        # What is no row is none, whatever is kept.
        with self.assertRaises(NoRow, msg=row):
            Desk().say(row)

    def test_other_words_and_counts(self):
        for row in (
            "",
            "x",
            "s",
            "yes",
            "(not q0)",
            "say",
            "say s",
            "dance",
            "dance o",
            "make",
            "make new",
            "make new s",
            "make new s 3",
            "make new s 3 12340 12340",
            "make new s 12340",
            "text",
            "text s s",
            "do",
            "do s",
            "do s 101 101",
            "cut",
            "cut three three",
            "back",
            "back three three",
            "alike",
            "alike three",
            "alike three o o",
            "marks",
            "marks three three",
            "chain",
            "saying s yes",
            "Say s yes",
            "SAY s yes",
            "sa s yes",
            "tell s",
            "texts s",
            "done s 101",
            "keep s yes",
            "s text",
            "3 chain",
            "chains 3",
        ):
            self.assert_no_row(row)

    def test_words_without_signs(self):
        for row in GOOD_ROWS + ("say new (and q0 (or q1 q2))", "dance new cups 3 questions 1 ; 0 120 012"):
            self.assert_no_row(" " + row)
            self.assert_no_row(row + " ")
            for at, sign in enumerate(row):
                if sign == " ":
                    self.assert_no_row(row[:at] + " " + row[at:])
        for row in (" ", "  ", "say  yes", "say s ", "say s  ", "text ", "do s ", "chain ", "chain 3 ", "dance o "):
            self.assert_no_row(row)

    def test_line_feeds(self):
        for row in GOOD_ROWS:
            for at in range(len(row) + 1):
                self.assert_no_row(row[:at] + "\n" + row[at:])
                self.assert_no_row(row[:at] + "\n" + row[at + 1 :])
        self.assert_no_row("\n")
        self.assert_no_row("dance new cups 3 questions 1\n0 120 012")

    def test_names_that_are_none(self):
        long = ["abcdefg", "zzzzzzzz", "Three"]
        for name in long + "A S aB s1 1 0 1s s_ _ s-t ( s) s. { ` @ [".split():
            for row in (
                f"say {name} yes",
                f"dance {name} cups 3 questions 1",
                f"make {name} s 3 12340",
                f"make new {name} 3 12340",
                f"text {name}",
                f"do {name} 101",
                f"cut {name}",
                f"back {name}",
                f"alike {name} o",
                f"alike three {name}",
                f"marks {name}",
            ):
                self.assert_no_row(row)

    def test_numbers_of_questions(self):
        for number in "0 00 01 03 010 11 12 20 99 100 1000 x 3x -3 +3 3. q3 _3".split():
            self.assert_no_row(f"make new s {number} 12340")

    def test_answers_of_other_signs(self):
        for answers in ("2", "1012", "9", "x", "10x", "-1", "+1", "yes", "1,0", "q0", "0.1", "(0)"):
            for name in ("s", "b", "three", "five"):
                self.assert_no_row(f"do {name} {answers}")

    def test_rings_of_other_signs(self):
        for ring in ("x", "1234x", "x2340", "-12340", "+12340", "12.40", "(12340)", "1,2,3,4,0", "12340x", "a"):
            self.assert_no_row("make new s 3 " + ring)

    def test_cups_of_a_chain(self):
        for cups in ("0", "1", "2", "6", "33", "03", "30", "10", "x", "3x", "-3", "+3", "34", "345", "s"):
            self.assert_no_row("chain " + cups)
            self.assert_no_row(f"chain {cups} 012")

    def test_turnings_of_a_chain(self):
        for cups, bad in (
            (3, ("0", "01", "0123", "01234", "011", "000", "123", "013", "01x", "x12", "-12", "0,1,2", "012012", "s")),
            (4, ("012", "01234", "0122", "1234", "0124", "012x", "4321")),
            (5, ("012", "0123", "012345", "01233", "12345", "01235", "0123x", "56789")),
        ):
            good = "".join(str(place) for place in range(cups))
            for one in bad:
                self.assert_no_row(f"chain {cups} {one}")
                self.assert_no_row(f"chain {cups} {good} {one}")
                self.assert_no_row(f"chain {cups} {good} {good} {good} {one}")
            self.assert_no_row(" ".join([f"chain {cups}"] + [good] * 5))
            self.assert_no_row(" ".join([f"chain {cups}"] + [good] * 9))

    def test_names_by_which_nothing_is_kept(self):
        for row, name in (
            ("text none", "none"),
            ("do none 101", "none"),
            ("cut none", "none"),
            ("back none", "none"),
            ("marks none", "none"),
            ("alike none o", "none"),
            ("alike o none", "none"),
            ("alike none new", "none"),
            ("alike new none", "new"),
            ("alike none none", "none"),
            ("make new none 3 12340", "none"),
            ("make none none 3 12340", "none"),
            ("make three none 3 12340", "none"),
            ("text text", "text"),
            ("do do 1", "do"),
        ):
            self.assert_refused(row, NoName, name=name)

    def test_texts_that_are_none_of_sayings(self):
        for text in (
            "x",
            "Yes",
            "q",
            "q01",
            "q1000",
            "qq",
            "q0 q1",
            "(not q0",
            "not q0)",
            "not q0",
            "(not)",
            "(and q0)",
            "(and q0 q1 q2)",
            "((not q0))",
            "( not q0)",
            "(not q0 )",
            "(most q0 q1)",
            "(nor q0 q1)",
            "yes no",
            ";",
            "cups 3 questions 1",
        ):
            with self.assertRaises(BadText):
                read_saying(text)
            for name in ("new", "s", "three", "say"):
                self.assert_refused(f"say {name} {text}", BadText, row=0)

    def test_texts_that_are_none_of_dances(self):
        for text, row in (
            ("x", 0),
            ("q0", 0),
            (";", 0),
            ("cups 3", 0),
            ("cups 2 questions 1", 0),
            ("cups 6 questions 1", 0),
            ("cups 3 questions 0", 0),
            ("cups 3 questions 11", 0),
            ("cups 03 questions 1", 0),
            ("cups 3 questions 1;", 0),
            ("cups 3 questions 1;0 120 012", 0),
            ("cups 3 questions 1 0 120 012", 0),
            ("; cups 3 questions 1", 0),
            ("0 120 012 ; cups 3 questions 1", 0),
            ("cups 3 questions 1 ; x", 1),
            ("cups 3 questions 1 ; 1 120 012", 1),
            ("cups 3 questions 1 ; 0 120", 1),
            ("cups 3 questions 1 ; 0 120 011", 1),
            ("cups 3 questions 1 ; 0 1230 0123", 1),
            ("cups 3 questions 1 ; ; 0 120 012", 1),
            ("cups 3 questions 1 ; cups 3 questions 1", 1),
            ("cups 3 questions 1 ; 0 120 012 ; 0 120 012 ; 00 120 012 ; x", 3),
        ):
            with self.assertRaises(BadText):
                read_dance(text.replace(" ; ", "\n"))
            for name in ("new", "s", "three", "cut"):
                self.assert_refused(f"dance {name} {text}", BadText, row=row)

    def test_of_the_other_sort(self):
        for name in SAYINGS:
            for row in (f"cut {name}", f"back {name}", f"marks {name}", f"alike {name} o", f"alike o {name}"):
                self.assert_refused(row, NoRow)
            self.assert_refused(f"alike {name} {name}", NoRow)
        for name in DANCES:
            for target in ("new", "s", name):
                self.assert_refused(f"make {target} {name} 10 12340", NoRow)

    def test_of_other_than_three_cups(self):
        for name in ("four", "five", "cut"):
            for other in ("o", "s", name):
                self.assert_refused(f"alike {name} {other}", NoRow)
                self.assert_refused(f"alike {other} {name}", NoRow)
            self.assert_refused(f"marks {name}", NoRow)

    def test_too_few_answers(self):
        for row in ("do s 1", "do s 11", "do q 1", "do q 111111111"):
            self.assert_refused(row, NoRow)
        self.assertEqual(self.desk.say("do s 100"), "yes")
        self.assertEqual(self.desk.say("do q 0000000001"), "yes")

    def test_other_than_as_many_answers_as_a_dance_has_questions(self):
        for name, many in (("three", 2), ("o", 2), ("more", 3), ("four", 2), ("five", 2), ("cut", 10)):
            for count in (1, 2, 3, 4, 9, 10, 11, 20):
                if count != many:
                    self.assert_refused(f"do {name} " + "1" * count, NoRow)

    def test_questions_not_below_n(self):
        for name in ("new", "three", "s"):
            for number in (1, 2):
                self.assert_refused(f"make {name} s {number} 12340", NoRow)
            for number in range(1, 10):
                self.assert_refused(f"make {name} q {number} 12340", NoRow)
        self.assertEqual(self.desk.say("make five q 10 12340"), "made")

    def test_no_ring(self):
        for ring in bad_rings():
            if ring and min(ring) >= 0:
                for name in ("new", "three", "s"):
                    self.assert_refused(f"make {name} s 3 " + in_a_row(ring), NoRing)
        for ring in ("0", "9", "56789", "12345", "012340", "1234", "01234", "1" * 900):
            self.assert_refused("make new s 3 " + ring, NoRing)

    def test_too_heavy(self):
        weight = weighed(read_saying(HEAVY))
        self.assertGreater(weight, 128)
        for name in ("new", "heavy", "three"):
            self.assert_refused(f"make {name} heavy 2 12340", TooHeavy, weight=weight)

    def test_other_sizes(self):
        self.assert_refused("alike three more", OtherSizes)
        self.assert_refused("alike more three", OtherSizes)
        self.assert_refused("alike o more", OtherSizes)


class OrderTest(unittest.TestCase):
    def assert_first(self, kind, *rows):
        desk = full_desk()
        for row in rows:
            with self.assertRaises(CupError, msg=row) as caught:
                desk.say(row)
            self.assertIs(caught.exception.__class__, kind, row)

    def test_no_row_ahead_of_no_name(self):
        self.assert_first(NoRow, "do none 2", "text none x", "alike none A", "alike A none", "cut none none")
        self.assert_first(NoRow, "make new none 0 12340", "make new none 3 x", "make A none 3 12340", "text none\n")
        self.assert_first(NoRow, " text none", "text  none", "do none ", "marks none ")

    def test_no_row_ahead_of_bad_text(self):
        self.assert_first(NoRow, "say A x", "say s  x", "say s x ", "say abcdefg x", "say s (and q0  q1)", "say s x\n")
        self.assert_first(NoRow, "dance A x", "dance o  x", "dance o x ", "dance o cups 9\nx", "dance 3 cups 9")

    def test_no_row_ahead_of_what_functions_refuse(self):
        self.assert_first(NoRow, "make new s 11 00000", "make new heavy 02 12340", "make new heavy 2 1234x")
        self.assert_first(NoRow, "alike three more x", "alike three  more")

    def test_no_name_ahead_of_the_other_sort(self):
        self.assert_first(NoName, "alike s none", "alike none s", "alike five none", "alike none five", "do none 1")

    def test_no_name_ahead_of_what_functions_refuse(self):
        self.assert_first(NoName, "make new none 1 0", "make s none 2 01234", "alike none more")

    def test_the_other_sort_ahead_of_what_functions_refuse(self):
        self.assert_first(NoRow, "make new three 2 01234", "make new s 2 01234", "make new q 9 0")
        self.assert_first(NoRow, "make new heavy 1 12340", "make new heavy 1 01234")
        self.assert_first(NoRow, "alike five more", "alike more five", "alike four more", "alike cut three")
        self.assert_first(NoRow, "alike three cut", "alike s more", "alike more s")

    def test_no_ring_ahead_of_too_heavy(self):
        self.assert_first(NoRing, "make new heavy 2 01234", "make new heavy 2 0", "make heavy heavy 10 9999999")


if __name__ == "__main__":
    unittest.main()
